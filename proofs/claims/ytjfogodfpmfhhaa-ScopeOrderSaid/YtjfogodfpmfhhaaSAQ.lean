/- What is read has texts of a million bytes at most, and no more parts than four times its tokens. No program. Scopes: what is wrong first in an expression, in a program. No program. Package scope: the map of what is bound, each with how often. Package scope: variable, con, pattern, hasName, boundIn, allNew. Package scope: wrongWithin: an expression where some names more are bound. Package scope: wrongAmong: the alternatives of one case. Package scope: wrongIn, of any expression. Package scope: declared. Package scope: Check. The statements on scopes: what a text's program is told (check), awake, Heads. New memory behind new memory; texts one behind the other. -/
import Derived.Test.YtjfogodfpmfhhaaZIQ
import Derived.Test.YtjfogodfpmfhhaaDAQ
import Derived.WideKeyEntry
import Derived.Test.YtjfogodfpmfhhaaYsxQ
import Derived.Deep.RegionHeldLaw
import Derived.Deep.CutRange
import Derived.Deep.DeepCutAuto
import Derived.Test.YtjfogodfpmfhhaaYsdQ
import Derived.Test.YtjfogodfpmfhhaaZCQ
import Derived.Test.YtjfogodfpmfhhaaYspQ
import Derived.Test.YtjfogodfpmfhhaaZFQ
import Derived.Test.YtjfogodfpmfhhaaYparmQ
import Derived.Test.YtjfogodfpmfhhaaZAQ
import Derived.BigQuiet
namespace Go.Proofs.Ytjfogodfpmfhhaa
set_option linter.unusedVariables false
set_option linter.unusedSectionVars false
set_option linter.unusedSimpArgs false

mutual
/-- Names are of a million bytes at most; what a name's function has is one. -/
def Ex.fit : Ex → Prop
  | .mk k p s n kids alts => s.length ≤ 1000000 ∧ (k = 6 → kids.length = 1) ∧ Ex.fits kids ∧ Al.fits alts
def Ex.fits : List Ex → Prop
  | [] => True
  | x :: r => x.fit ∧ Ex.fits r
def Al.fit : Al → Prop
  | .mk p s names b => s.length ≤ 1000000 ∧ names.length ≤ 1000000 ∧ (∀ t ∈ names, t.length ≤ 1000000) ∧ b.fit
def Al.fits : List Al → Prop
  | [] => True
  | x :: r => x.fit ∧ Al.fits r
end
mutual
/-- How many kids, alts, names there are within. -/
def Ex.nn : Ex → Nat
  | .mk k p s n kids alts => Ex.nns kids + Al.nns alts
def Ex.nns : List Ex → Nat
  | [] => 0
  | x :: r => 1 + x.nn + Ex.nns r
def Al.nn : Al → Nat
  | .mk p s names b => 1 + names.length + b.nn
def Al.nns : List Al → Nat
  | [] => 0
  | x :: r => x.nn + Al.nns r
end
theorem Ex.fits_iff : ∀ l : List Ex, Ex.fits l ↔ ∀ x ∈ l, x.fit
  | [] => by simp [Ex.fits]
  | x :: r => by simp [Ex.fits, Ex.fits_iff r]
theorem Al.fits_iff : ∀ l : List Al, Al.fits l ↔ ∀ x ∈ l, x.fit
  | [] => by simp [Al.fits]
  | x :: r => by simp [Al.fits, Al.fits_iff r]
theorem tysFit_iff : ∀ l : List Ty, tysFit l ↔ ∀ x ∈ l, tyFit x
  | [] => by simp [tysFit]
  | x :: r => by simp [tysFit, tysFit_iff r]
theorem Ex.nns_app : ∀ l m : List Ex, Ex.nns (l ++ m) = Ex.nns l + Ex.nns m
  | [], m => by simp [Ex.nns]
  | x :: r, m => by simp only [List.cons_append, Ex.nns, Ex.nns_app r m]; omega
theorem Al.nns_app : ∀ l m : List Al, Al.nns (l ++ m) = Al.nns l + Al.nns m
  | [], m => by simp [Al.nns]
  | x :: r, m => by simp only [List.cons_append, Al.nns, Al.nns_app r m]; omega

def TF (l : List Tk) : Prop := l.length ≤ 900000 ∧ ∀ t ∈ l, t.s.length ≤ 1000000
def Fits {A : Type} (G : A → Prop) (X : PS → A × PS) : Prop := ∀ σ, TF σ.ts → G (X σ).1 ∧ TF (X σ).2.ts
theorem TF.nil : TF [] := ⟨by simp, fun t h => by simp at h⟩
theorem TF.cons {t : Tk} {r : List Tk} (h : TF (t :: r)) : TF r := ⟨by have := h.1; simp at this; omega, fun x hx => h.2 x (by simp [hx])⟩
theorem tail_tf {σ : PS} (h : TF σ.ts) : TF σ.tail.ts := by
  show TF σ.ts.tail
  cases e : σ.ts with
  | nil => exact TF.nil
  | cons t r => rw [e] at h; exact h.cons
theorem stop_tf {En : Nat} {σ : PS} (h : TF σ.ts) : TF (σ.stop En).ts := by
  unfold PS.stop; split
  · exact h
  · exact TF.nil
theorem head_tf {σ : PS} (h : TF σ.ts) : σ.head.s.length ≤ 1000000 := by
  unfold PS.head
  cases e : σ.ts with
  | nil => simp [Tk.zero]
  | cons t r => rw [e] at h; exact h.2 t (by simp)
theorem take_tf {En : Nat} {σ : PS} {s : Srt} (h : TF σ.ts) : (σ.take En s).1.s.length ≤ 1000000 ∧ TF (σ.take En s).2.ts := by
  unfold PS.take; split
  · exact ⟨head_tf h, tail_tf h⟩
  · exact ⟨by simp [Tk.zero], stop_tf h⟩
theorem namesL_tf : ∀ l : List Tk, TF l → (∀ s ∈ (namesL l).1, s.length ≤ 1000000) ∧ TF (namesL l).2
  | [], h => by simp [namesL]; exact h
  | t :: r, h => by
    unfold namesL; split
    · obtain ⟨h1, h2⟩ := namesL_tf r h.cons
      refine ⟨fun s hs => ?_, h2⟩
      rcases List.mem_cons.1 hs with rfl | hs
      · exact h.2 t (by simp)
      · exact h1 s hs
    · exact ⟨fun s hs => by simp at hs, h⟩
theorem names_tf {σ : PS} (h : TF σ.ts) : (∀ s ∈ σ.names.1, s.length ≤ 1000000) ∧ TF σ.names.2.ts := namesL_tf _ h
theorem names_le {σ : PS} (h : TF σ.ts) : σ.names.1.length ≤ 900000 := by have := names_sum σ; have := h.1; omega
theorem rowsL_tf {A : Type} {G : A → Prop} {sep : Srt} {most : Nat} {one : PS → A × PS} (hg : Fits G one) : ∀ (f : Nat) (l : List A) (σ : PS), TF σ.ts → (∀ x ∈ l, G x) → (∀ x ∈ (rowsL sep most one f l σ).1, G x) ∧ TF (rowsL sep most one f l σ).2.ts
  | 0, l, σ, h, hl => ⟨hl, h⟩
  | f + 1, l, σ, h, hl => by
    unfold rowsL; split
    · obtain ⟨h1, h2⟩ := hg σ.tail (tail_tf h)
      refine rowsL_tf hg f _ _ h2 (fun x hx => ?_)
      rcases List.mem_append.1 hx with h3 | h3
      · exact hl x h3
      · obtain rfl := List.mem_singleton.1 h3; exact h1
    · exact ⟨hl, h⟩
theorem rowsF_tf {A : Type} {G : A → Prop} {sep : Srt} {most : Nat} {one : PS → A × PS} (hg : Fits G one) {σ : PS} (h : TF σ.ts) : (∀ x ∈ (rowsF sep most one σ).1, G x) ∧ TF (rowsF sep most one σ).2.ts := by
  obtain ⟨h1, h2⟩ := hg σ h
  exact rowsL_tf hg _ _ _ h2 (fun x hx => by obtain rfl := List.mem_singleton.1 hx; exact h1)
theorem bracketF_tf {A : Type} {G : A → Prop} {En : Nat} {one : PS → A × PS} (hg : Fits G one) {σ : PS} (h : TF σ.ts) : (∀ x ∈ (bracketF En one σ).1.1, G x) ∧ TF (bracketF En one σ).2.ts := by
  have h1 := (take_tf (En := En) (s := sS tLpar) h).2
  have h2 := rowsF_tf (sep := sS tComma) (most := maxTup) hg h1
  exact ⟨h2.1, (take_tf h2.2).2⟩
theorem bracketF_le {A : Type} {En : Nat} {one : PS → A × PS} (hd : Dec one) {σ : PS} (h : TF σ.ts) : (bracketF En one σ).1.1.length ≤ 1000000 := by
  have h1 := (take_tf (En := En) (s := sS tLpar) h).2
  have h2 := rowsF_count (sep := sS tComma) (most := maxTup) hd (by decide) (σ.take En (sS tLpar)).2
  have := h1.1
  show (rowsF (sS tComma) maxTup one (σ.take En (sS tLpar)).2).1.length ≤ _
  omega

theorem varTy_fit {vs : List By} {s : By} (h : s.length ≤ 1000000) : tyFit (varTy vs s) := by
  unfold varTy; split <;> simp [tyFit, tysFit, h]
theorem tupTy_fit {l : List Ty} (h : ∀ x ∈ l, tyFit x) (hl : l.length ≤ 1000000) : tyFit (tupTy l) := by
  unfold tupTy; split
  · exact h _ (List.mem_singleton.2 rfl)
  · simp only [tyFit]; exact ⟨by decide, hl, (tysFit_iff _).2 h⟩
section
variable {En : Nat} {vs : List By} {T : PS → Ty × PS} (hd : Dec T) (hg : Fits tyFit T)
include hd hg
theorem atomTypeF_fit : Fits tyFit (atomTypeF En vs T) := fun σ h => by
  have h1 := take_tf (En := En) (s := sName) h
  have h2 := take_tf (En := En) (s := sCon) h
  unfold atomTypeF
  split
  · exact ⟨varTy_fit h1.1, h1.2⟩
  · split
    · exact ⟨by simp only [tyFit, tysFit]; exact ⟨h2.1, by simp, trivial⟩, h2.2⟩
    · split
      · have h3 := bracketF_tf (En := En) hg h
        exact ⟨tupTy_fit h3.1 (bracketF_le hd h), h3.2⟩
      · exact ⟨by simp [Ty.zero, tyFit, tysFit], stop_tf h⟩
theorem atomTypesL_fit : ∀ (f : Nat) (l : List Ty) (σ : PS), TF σ.ts → (∀ x ∈ l, tyFit x) → (∀ x ∈ (atomTypesL En vs T f l σ).1, tyFit x) ∧ TF (atomTypesL En vs T f l σ).2.ts ∧ (atomTypesL En vs T f l σ).1.length ≤ l.length + f
  | 0, l, σ, h, hl => ⟨hl, h, Nat.le_refl _⟩
  | f + 1, l, σ, h, hl => by
    unfold atomTypesL; split
    · obtain ⟨h1, h2⟩ := atomTypeF_fit (En := En) (vs := vs) hd hg σ h
      obtain ⟨h3, h4, h5⟩ := atomTypesL_fit f (l ++ [(atomTypeF En vs T σ).1]) _ h2 (fun x hx => by
        rcases List.mem_append.1 hx with h3 | h3
        · exact hl x h3
        · obtain rfl := List.mem_singleton.1 h3; exact h1)
      exact ⟨h3, h4, by rw [List.length_append, List.length_singleton] at h5; omega⟩
    · exact ⟨hl, h, (by show l.length ≤ l.length + (f + 1); omega)⟩
theorem atomTypesF_fit {σ : PS} (h : TF σ.ts) : (∀ x ∈ (atomTypesF En vs T σ).1, tyFit x) ∧ TF (atomTypesF En vs T σ).2.ts ∧ (atomTypesF En vs T σ).1.length ≤ 1000000 := by
  obtain ⟨h1, h2, h3⟩ := atomTypesL_fit (En := En) (vs := vs) hd hg σ.ts.length [] σ h (fun x hx => by simp at hx)
  refine ⟨h1, h2, ?_⟩
  have := h.1
  simp at h3
  show (atomTypesL En vs T σ.ts.length [] σ).1.length ≤ _
  omega
theorem leftTypeF_fit : Fits tyFit (leftTypeF En vs T) := fun σ h => by
  have h1 := take_tf (En := En) (s := sCon) h
  unfold leftTypeF; split
  · obtain ⟨h2, h3, h4⟩ := atomTypesF_fit (En := En) (vs := vs) hd hg h1.2
    exact ⟨by simp only [tyFit]; exact ⟨h1.1, h4, (tysFit_iff _).2 h2⟩, h3⟩
  · exact atomTypeF_fit hd hg σ h
theorem typStep_fit : Fits tyFit (typStep En vs T) := fun σ h => by
  obtain ⟨h1, h2⟩ := leftTypeF_fit (En := En) (vs := vs) hd hg σ h
  unfold typStep; split
  · obtain ⟨h3, h4⟩ := hg _ (tail_tf h2)
    exact ⟨by simp only [tyFit, tysFit]; exact ⟨by decide, by simp, h1, h3, trivial⟩, h4⟩
  · exact ⟨h1, h2⟩
end
theorem typF_fit (En : Nat) (vs : List By) : ∀ n, Fits tyFit (typF En vs n)
  | 0 => fun σ h => ⟨by show tyFit Ty.zero; simp [Ty.zero, tyFit, tysFit], h⟩
  | n + 1 => typStep_fit (typF_len En vs n) (typF_fit En vs n)
def Cn.fit (c : Cn) : Prop := c.s.length ≤ 1000000 ∧ tysFit c.args ∧ c.args.length ≤ 1000000
def Dt.fit2 (d : Dt) : Prop := d.fit ∧ ∀ c ∈ d.cons, c.args.length ≤ 1000000
theorem conF_fit (En : Nat) (vs : List By) (n : Nat) : Fits Cn.fit (conF En vs n) := fun σ h => by
  have h1 := take_tf (En := En) (s := sCon) h
  obtain ⟨h2, h3, h4⟩ := atomTypesF_fit (En := En) (vs := vs) (typF_len En vs n) (typF_fit En vs n) h1.2
  exact ⟨⟨h1.1, (tysFit_iff _).2 h2, h4⟩, h3⟩

theorem Ex.zero_fit : Ex.zero.fit := by simp [Ex.zero, Ex.fit, Ex.fits, Al.fits]
theorem lams_fit {p : Int} {b : Ex} (hb : b.fit) : ∀ {names : List By}, (∀ s ∈ names, s.length ≤ 1000000) → (lams p names b).fit
  | [], _ => hb
  | s :: r, h => by
    show (Ex.mk 6 p s 0 [lams p r b] []).fit
    simp only [Ex.fit, Ex.fits, Al.fits]
    exact ⟨h s (by simp), fun _ => rfl, ⟨lams_fit hb fun t ht => h t (by simp [ht]), trivial⟩, trivial⟩
theorem leafE_fit {k : Nat} {t : Tk} (hk : k ≠ 6) (h : t.s.length ≤ 1000000) : (leafE k t).fit := by
  unfold leafE; split
  · simp only [Ex.fit, Ex.fits, Al.fits]; exact ⟨by simp, fun q => by simp at q, trivial, trivial⟩
  · simp only [Ex.fit, Ex.fits, Al.fits]; exact ⟨h, fun q => by exfalso; omega, trivial, trivial⟩
section
variable {En : Nat} {X : PS → Ex × PS} (hg : Fits Ex.fit X)
include hg
theorem lamF_fit : Fits Ex.fit (lamF En X) := fun σ h => by
  have h1 := take_tf (En := En) (s := sS tBack) h
  have h2 := take_tf (En := En) (s := sName) h1.2
  have h3 := names_tf h2.2
  have h4 := take_tf (En := En) (s := sS tArrow) h3.2
  have h5 := hg _ h4.2
  exact ⟨lams_fit h5.1 (fun s hs => by rcases List.mem_cons.1 hs with rfl | hs; exact h2.1; exact h3.1 s hs), h5.2⟩
theorem bindF_fit : Fits (fun b : Bd => b.s.length ≤ 1000000 ∧ b.body.fit) (bindF En X) := fun σ h => by
  have h2 := take_tf (En := En) (s := sName) h
  have h3 := names_tf h2.2
  have h4 := take_tf (En := En) (s := sS tEq) h3.2
  have h5 := hg _ h4.2
  exact ⟨⟨h2.1, lams_fit h5.1 h3.1⟩, h5.2⟩
theorem letF_fit : Fits Ex.fit (letF En X) := fun σ h => by
  have h1 := take_tf (En := En) (s := sW tLet) h
  have h2 := bindF_fit (En := En) hg _ h1.2
  have h3 := take_tf (En := En) (s := sW tIn) h2.2
  have h4 := hg _ h3.2
  refine ⟨?_, h4.2⟩
  simp only [letF, Ex.fit, Ex.fits, Al.fits]
  exact ⟨h2.1.1, fun q => by simp at q, ⟨h2.1.2, h4.1, trivial⟩, trivial⟩
theorem choiceF_fit : Fits Ex.fit (choiceF En X) := fun σ h => by
  have h1 := take_tf (En := En) (s := sW tIf) h
  have h2 := hg _ h1.2
  have h3 := take_tf (En := En) (s := sW tThen) h2.2
  have h4 := hg _ h3.2
  have h5 := take_tf (En := En) (s := sW tElse) h4.2
  have h6 := hg _ h5.2
  refine ⟨?_, h6.2⟩
  simp only [choiceF, Ex.fit, Ex.fits, Al.fits]
  exact ⟨by simp, fun q => by simp at q, ⟨h2.1, h4.1, h6.1, trivial⟩, trivial⟩
theorem altF_fit : Fits Al.fit (altF En X) := fun σ h => by
  have h1 := take_tf (En := En) (s := sCon) h
  have h2 := names_tf h1.2
  have h2l := names_le h1.2
  have h3 := take_tf (En := En) (s := sS tArrow) h2.2
  have h4 := hg _ h3.2
  refine ⟨?_, h4.2⟩
  simp only [altF, Al.fit]
  exact ⟨h1.1, by omega, h2.1, h4.1⟩
theorem casesF_fit : Fits Ex.fit (casesF En X) := fun σ h => by
  have h1 := take_tf (En := En) (s := sW tCase) h
  have h2 := hg _ h1.2
  have h3 := take_tf (En := En) (s := sW tOf) h2.2
  have h4 := take_tf (En := En) (s := sS tLcur) h3.2
  have h5 := rowsF_tf (sep := sS tSemi) (most := many) (altF_fit (En := En) hg) h4.2
  have h6 := take_tf (En := En) (s := sS tRcur) h5.2
  refine ⟨?_, h6.2⟩
  simp only [casesF, Ex.fit, Ex.fits]
  exact ⟨by simp, fun q => by simp at q, ⟨h2.1, trivial⟩, (Al.fits_iff _).2 h5.1⟩
theorem atomF_fit : Fits Ex.fit (atomF En X) := fun σ h => by
  unfold atomF; split
  · rename_i h1
    exact ⟨leafE_fit (fun q => by rw [q] at h1; exact absurd h1 (by decide)) (head_tf h), tail_tf h⟩
  · split
    · have h3 := bracketF_tf (En := En) hg h
      refine ⟨?_, h3.2⟩
      show (tupEx _ _).fit
      unfold tupEx; split
      · rename_i x e; exact h3.1 _ (by rw [e]; simp)
      · simp only [Ex.fit, Al.fits]
        exact ⟨by simp, fun q => by simp at q, (Ex.fits_iff _).2 h3.1, trivial⟩
    · exact ⟨Ex.zero_fit, stop_tf h⟩
theorem appL_fit : ∀ (f : Nat) (e : Ex) (σ : PS), TF σ.ts → e.fit → (appL En X f e σ).1.fit ∧ TF (appL En X f e σ).2.ts
  | 0, e, σ, h, he => ⟨he, h⟩
  | f + 1, e, σ, h, he => by
    unfold appL; split
    · obtain ⟨h1, h2⟩ := atomF_fit (En := En) hg σ h
      exact appL_fit f _ _ h2 (by simp only [Ex.fit, Ex.fits, Al.fits]; exact ⟨by simp, fun q => by simp at q, ⟨he, h1, trivial⟩, trivial⟩)
    · exact ⟨he, h⟩
theorem exprStep_fit : Fits Ex.fit (exprStep En X) := fun σ h => by
  unfold exprStep; split
  · exact lamF_fit hg σ h
  · split
    · exact letF_fit hg σ h
    · split
      · exact choiceF_fit hg σ h
      · split
        · exact casesF_fit hg σ h
        · obtain ⟨h1, h2⟩ := atomF_fit (En := En) hg σ h
          exact appL_fit hg _ _ _ h2 h1
end
theorem exprF_fit (En : Nat) : ∀ n, Fits Ex.fit (exprF En n)
  | 0 => fun σ h => ⟨Ex.zero_fit, h⟩
  | n + 1 => exprStep_fit (exprF_fit En n)

theorem dataF_fit (En n : Nat) : Fits Dt.fit2 (dataF En n) := fun σ h => by
  dsimp only [dataF]
  have h1 := (take_tf (En := En) (s := sW tData) h).2
  generalize (σ.take En (sW tData)).2 = σ1 at h1 ⊢
  have h2 := take_tf (En := En) (s := sCon) h1
  generalize σ1.take En sCon = B at h2 ⊢
  have h3 := names_tf h2.2
  have h3l := names_le h2.2
  generalize B.2.names = M at h3 h3l ⊢
  have h4 := (take_tf (En := En) (s := sS tEq) h3.2).2
  generalize (M.2.take En (sS tEq)).2 = σ4 at h4 ⊢
  have h5 := rowsF_tf (sep := sS tBar) (most := many) (conF_fit En M.1 n) h4
  generalize rowsF (sS tBar) many (conF En M.1 n) σ4 = r at h5 ⊢
  have h6 := take_tf (En := En) (s := sS tSemi) h5.2
  exact ⟨⟨⟨h2.1, (by show M.1.length ≤ _; omega), h3.1, fun c hc => ⟨(h5.1 c hc).1, (h5.1 c hc).2.1⟩⟩, fun c hc => (h5.1 c hc).2.2⟩, h6.2⟩
theorem topF_fit (En n : Nat) : Fits (fun b : Bd => b.s.length ≤ 1000000 ∧ b.body.fit) (topF En n) := fun σ h => by
  have h1 := take_tf (En := En) (s := sW tLet) h
  have h2 := bindF_fit (En := En) (exprF_fit En n) _ h1.2
  exact ⟨h2.1, (take_tf h2.2).2⟩
theorem programL_fit (En n : Nat) : ∀ (f : Nat) (p : Pg) (σ : PS), TF σ.ts → (∀ d ∈ p.datas, d.fit2) → (∀ b ∈ p.binds, b.s.length ≤ 1000000 ∧ b.body.fit) → (∀ d ∈ (programL En n f p σ).1.datas, d.fit2) ∧ (∀ b ∈ (programL En n f p σ).1.binds, b.s.length ≤ 1000000 ∧ b.body.fit)
  | 0, p, σ, h, hd, hb => ⟨hd, hb⟩
  | f + 1, p, σ, h, hd, hb => by
    unfold programL; split
    · exact ⟨hd, hb⟩
    · split
      · obtain ⟨h1, h2⟩ := dataF_fit En n σ h
        refine programL_fit En n f _ _ h2 (fun d hx => ?_) hb
        rcases List.mem_append.1 hx with h3 | h3
        · exact hd d h3
        · obtain rfl := List.mem_singleton.1 h3; exact h1
      · obtain ⟨h1, h2⟩ := topF_fit En n σ h
        refine programL_fit En n f _ _ h2 hd (fun b hx => ?_)
        rcases List.mem_append.1 hx with h3 | h3
        · exact hb b h3
        · obtain rfl := List.mem_singleton.1 h3; exact h1

def Few {A : Type} (m : A → Nat) (X : PS → A × PS) : Prop := ∀ σ, m (X σ).1 + 4 * (X σ).2.ts.length ≤ 4 * σ.ts.length
def sumOf {A : Type} (m : A → Nat) : List A → Nat
  | [] => 0
  | x :: r => m x + sumOf m r
theorem sumOf_app {A : Type} (m : A → Nat) : ∀ l k : List A, sumOf m (l ++ k) = sumOf m l + sumOf m k
  | [], k => by simp [sumOf]
  | x :: r, k => by simp only [List.cons_append, sumOf, sumOf_app m r k]; omega
theorem nns_sum : ∀ l : List Ex, Ex.nns l = sumOf (fun x => 1 + x.nn) l
  | [] => rfl
  | x :: r => by simp only [Ex.nns, sumOf, nns_sum r]
theorem nnsA_sum : ∀ l : List Al, Al.nns l = sumOf Al.nn l
  | [] => rfl
  | x :: r => by simp only [Al.nns, sumOf, nnsA_sum r]
theorem rowsL_few {A : Type} {m : A → Nat} {c : Nat} {sep : Srt} {most : Nat} {one : PS → A × PS} (hs : sep.k ≠ 0) (hc : c ≤ 4) (hf : ∀ σ, m (one σ).1 + 4 * (one σ).2.ts.length ≤ 4 * σ.ts.length + c) : ∀ (f : Nat) (l : List A) (σ : PS), sumOf m (rowsL sep most one f l σ).1 + 4 * (rowsL sep most one f l σ).2.ts.length ≤ sumOf m l + 4 * σ.ts.length
  | 0, l, σ => Nat.le_refl _
  | f + 1, l, σ => by
    unfold rowsL; split
    · rename_i h3
      have h1 := sees_pos h3.2 hs
      have h2 := hf σ.tail
      have h4 := rowsL_few (m := m) (sep := sep) (most := most) (one := one) hs hc hf f (l ++ [(one σ.tail).1]) (one σ.tail).2
      rw [tail_len] at h2
      rw [sumOf_app] at h4
      simp only [sumOf] at h4
      omega
    · exact Nat.le_refl _
theorem rowsF_few {A : Type} {m : A → Nat} {c : Nat} {sep : Srt} {most : Nat} {one : PS → A × PS} (hs : sep.k ≠ 0) (hc : c ≤ 4) (hf : ∀ σ, m (one σ).1 + 4 * (one σ).2.ts.length ≤ 4 * σ.ts.length + c) (σ : PS) : sumOf m (rowsF sep most one σ).1 + 4 * (rowsF sep most one σ).2.ts.length ≤ 4 * σ.ts.length + c := by
  have h1 := rowsL_few (m := m) (most := most) (one := one) hs hc hf (one σ).2.ts.length [(one σ).1] (one σ).2
  have h2 := hf σ
  simp only [sumOf] at h1
  unfold rowsF; omega
theorem lams_nn (p : Int) (b : Ex) : ∀ names : List By, (lams p names b).nn = names.length + b.nn
  | [] => by simp [lams]
  | s :: r => by
    show (Ex.mk 6 p s 0 [lams p r b] []).nn = _
    simp only [Ex.nn, Ex.nns, Al.nns, lams_nn p b r, List.length_cons]; omega
theorem leafE_nn (k : Nat) (t : Tk) : (leafE k t).nn = 0 := by
  unfold leafE; split <;> simp [Ex.nn, Ex.nns, Al.nns]
section
variable {En : Nat} {X : PS → Ex × PS} (hg : Few Ex.nn X)
include hg
theorem lamF_few {σ : PS} (hs : σ.sees (sS tBack) = true) : (lamF En X σ).1.nn + 4 * (lamF En X σ).2.ts.length ≤ 4 * σ.ts.length := by
  have h1 := take_lt (En := En) hs (by decide)
  have h2 := take_len En (σ.take En (sS tBack)).2 sName
  have h3 := names_sum ((σ.take En (sS tBack)).2.take En sName).2
  have h4 := take_len En ((σ.take En (sS tBack)).2.take En sName).2.names.2 (sS tArrow)
  have h5 := hg (((σ.take En (sS tBack)).2.take En sName).2.names.2.take En (sS tArrow)).2
  simp only [lamF]
  rw [lams_nn, List.length_cons]
  omega
theorem bindF_few (σ : PS) : (bindF En X σ).1.body.nn + 4 * (bindF En X σ).2.ts.length ≤ 4 * σ.ts.length := by
  have h2 := take_len En σ sName
  have h3 := names_sum (σ.take En sName).2
  have h4 := take_len En (σ.take En sName).2.names.2 (sS tEq)
  have h5 := hg ((σ.take En sName).2.names.2.take En (sS tEq)).2
  simp only [bindF]
  rw [lams_nn]
  omega
theorem letF_few {σ : PS} (hs : σ.sees (sW tLet) = true) : (letF En X σ).1.nn + 4 * (letF En X σ).2.ts.length ≤ 4 * σ.ts.length := by
  have h1 := take_lt (En := En) hs (by decide)
  have h2 := bindF_few (En := En) hg (σ.take En (sW tLet)).2
  have h3 := take_len En (bindF En X (σ.take En (sW tLet)).2).2 (sW tIn)
  have h4 := hg ((bindF En X (σ.take En (sW tLet)).2).2.take En (sW tIn)).2
  simp only [letF, Ex.nn, Ex.nns, Al.nns]
  omega
theorem choiceF_few {σ : PS} (hs : σ.sees (sW tIf) = true) : (choiceF En X σ).1.nn + 4 * (choiceF En X σ).2.ts.length ≤ 4 * σ.ts.length := by
  have h1 := take_lt (En := En) hs (by decide)
  have h2 := hg (σ.take En (sW tIf)).2
  have h3 := take_len En (X (σ.take En (sW tIf)).2).2 (sW tThen)
  have h4 := hg ((X (σ.take En (sW tIf)).2).2.take En (sW tThen)).2
  have h5 := take_len En (X ((X (σ.take En (sW tIf)).2).2.take En (sW tThen)).2).2 (sW tElse)
  have h6 := hg ((X ((X (σ.take En (sW tIf)).2).2.take En (sW tThen)).2).2.take En (sW tElse)).2
  simp only [choiceF, Ex.nn, Ex.nns, Al.nns]
  omega
theorem altF_few (σ : PS) : (altF En X σ).1.nn + 4 * (altF En X σ).2.ts.length ≤ 4 * σ.ts.length + 1 := by
  have h1 := take_len En σ sCon
  have h3 := names_sum (σ.take En sCon).2
  have h4 := take_len En (σ.take En sCon).2.names.2 (sS tArrow)
  have h5 := hg ((σ.take En sCon).2.names.2.take En (sS tArrow)).2
  simp only [altF, Al.nn]
  omega
theorem casesF_few {σ : PS} (hs : σ.sees (sW tCase) = true) : (casesF En X σ).1.nn + 4 * (casesF En X σ).2.ts.length ≤ 4 * σ.ts.length := by
  have h1 := take_lt (En := En) hs (by decide)
  have h2 := hg (σ.take En (sW tCase)).2
  have h3 := take_len En (X (σ.take En (sW tCase)).2).2 (sW tOf)
  have h4 := take_len En ((X (σ.take En (sW tCase)).2).2.take En (sW tOf)).2 (sS tLcur)
  have h5 := rowsF_few (m := Al.nn) (sep := sS tSemi) (most := many) (by decide) (by decide) (altF_few (En := En) hg) (((X (σ.take En (sW tCase)).2).2.take En (sW tOf)).2.take En (sS tLcur)).2
  have h6 := take_len En (rowsF (sS tSemi) many (altF En X) (((X (σ.take En (sW tCase)).2).2.take En (sW tOf)).2.take En (sS tLcur)).2).2 (sS tRcur)
  simp only [casesF, Ex.nn, Ex.nns]
  rw [nnsA_sum]
  omega
theorem tupleF_few {σ : PS} (hs : σ.sees (sS tLpar) = true) : (tupleF En X σ).1.nn + 4 * (tupleF En X σ).2.ts.length + 3 ≤ 4 * σ.ts.length := by
  have h1 := take_lt (En := En) hs (by decide)
  have h5 := rowsF_few (m := fun x : Ex => 1 + x.nn) (sep := sS tComma) (most := maxTup) (one := X) (c := 1) (by decide) (by decide) (fun σ => by have := hg σ; omega) (σ.take En (sS tLpar)).2
  have h6 := take_len En (rowsF (sS tComma) maxTup X (σ.take En (sS tLpar)).2).2 (sS tRpar)
  show (tupEx (σ.take En (sS tLpar)).1.p (rowsF (sS tComma) maxTup X (σ.take En (sS tLpar)).2).1).nn + 4 * ((rowsF (sS tComma) maxTup X (σ.take En (sS tLpar)).2).2.take En (sS tRpar)).2.ts.length + 3 ≤ _
  have h7 : (tupEx (σ.take En (sS tLpar)).1.p (rowsF (sS tComma) maxTup X (σ.take En (sS tLpar)).2).1).nn ≤ sumOf (fun x : Ex => 1 + x.nn) (rowsF (sS tComma) maxTup X (σ.take En (sS tLpar)).2).1 := by
    unfold tupEx; split
    · rename_i x e; rw [e]; simp only [sumOf]; omega
    · simp only [Ex.nn, Al.nns]; rw [nns_sum]; omega
  omega
theorem atomF_few (σ : PS) : (atomF En X σ).1.nn + 4 * (atomF En X σ).2.ts.length ≤ 4 * σ.ts.length := by
  unfold atomF; split
  · rw [leafE_nn]
    have := tail_len σ
    show 0 + 4 * σ.tail.ts.length ≤ _
    omega
  · split
    · rename_i h1 h2
      have := tupleF_few (En := En) hg (σ := σ) (sees_of ((beg_sees h2).2.2.1 rfl))
      omega
    · have := stop_len En σ
      show Ex.zero.nn + 4 * (σ.stop En).ts.length ≤ _
      simp only [Ex.zero, Ex.nn, Ex.nns, Al.nns]; omega
theorem atomF_few' {σ : PS} (hs : σ.seesAtom = true) : (atomF En X σ).1.nn + 4 * (atomF En X σ).2.ts.length + 3 ≤ 4 * σ.ts.length := by
  unfold atomF; split
  · rename_i h1
    have h2 : 0 < σ.ts.length := beg_pos (fun e => by rw [e] at h1; exact absurd h1 (by decide))
    rw [leafE_nn]
    have := tail_len σ
    show 0 + 4 * σ.tail.ts.length + 3 ≤ _
    omega
  · split
    · rename_i h1 h2
      exact tupleF_few (En := En) hg (σ := σ) (sees_of ((beg_sees h2).2.2.1 rfl))
    · rename_i h1 h2
      simp [PS.seesAtom, h1, h2] at hs
theorem appL_few : ∀ (f : Nat) (e : Ex) (σ : PS), (appL En X f e σ).1.nn + 4 * (appL En X f e σ).2.ts.length ≤ e.nn + 4 * σ.ts.length
  | 0, e, σ => Nat.le_refl _
  | f + 1, e, σ => by
    unfold appL; split
    · rename_i hs
      have h1 := atomF_few' (En := En) hg hs
      have h2 := appL_few f (.mk 5 e.at [] 0 [e, (atomF En X σ).1] []) (atomF En X σ).2
      simp only [Ex.nn, Ex.nns, Al.nns] at h2
      omega
    · exact Nat.le_refl _
theorem exprStep_few : Few Ex.nn (exprStep En X) := fun σ => by
  unfold exprStep; split
  · rename_i h; exact lamF_few hg (sees_of ((beg_sees h).1 rfl))
  · split
    · rename_i _ h; exact letF_few hg (sees_of ((beg_sees h).2.1 rfl))
    · split
      · rename_i _ _ h; exact choiceF_few hg (sees_of ((beg_sees h).2.2.2.1 rfl))
      · split
        · rename_i _ _ _ h; exact casesF_few hg (sees_of ((beg_sees h).2.2.2.2 rfl))
        · have h1 := atomF_few (En := En) hg σ
          have h2 := appL_few (En := En) hg (atomF En X σ).2.ts.length (atomF En X σ).1 (atomF En X σ).2
          show (appL En X (atomF En X σ).2.ts.length (atomF En X σ).1 (atomF En X σ).2).1.nn + 4 * (appL En X (atomF En X σ).2.ts.length (atomF En X σ).1 (atomF En X σ).2).2.ts.length ≤ _
          omega
end
theorem exprF_few (En : Nat) : ∀ n, Few Ex.nn (exprF En n)
  | 0 => fun σ => by show Ex.zero.nn + 4 * σ.ts.length ≤ _; simp [Ex.zero, Ex.nn, Ex.nns, Al.nns]
  | n + 1 => exprStep_few (exprF_few En n)
def bdN (b : Bd) : Nat := b.body.nn
theorem programL_few (En n : Nat) : ∀ (f : Nat) (p : Pg) (σ : PS), sumOf bdN (programL En n f p σ).1.binds ≤ sumOf bdN p.binds + 4 * σ.ts.length ∧ (programL En n f p σ).1.binds.length ≤ p.binds.length + f ∧ (programL En n f p σ).1.datas.length ≤ p.datas.length + f
  | 0, p, σ => ⟨Nat.le_add_right _ _, Nat.le_refl _, Nat.le_refl _⟩
  | f + 1, p, σ => by
    unfold programL; split
    · exact ⟨Nat.le_add_right _ _, (by show p.binds.length ≤ _; omega), (by show p.datas.length ≤ _; omega)⟩
    · split
      · rename_i hs
        obtain ⟨_, _, h1⟩ := dataF_ok En n hs
        obtain ⟨h2, h3, h4⟩ := programL_few En n f ⟨p.datas ++ [(dataF En n σ).1], p.binds⟩ (dataF En n σ).2
        rw [List.length_append, List.length_singleton] at h4
        dsimp only at h2 h3
        exact ⟨by omega, by omega, by omega⟩
      · obtain ⟨h2, h3, h4⟩ := programL_few En n f ⟨p.datas, p.binds ++ [(topF En n σ).1]⟩ (topF En n σ).2
        rw [List.length_append, List.length_singleton] at h3
        rw [sumOf_app] at h2
        have h5 := take_len En σ (sW tLet)
        have h6 := bindF_few (En := En) (exprF_few En n) (σ.take En (sW tLet)).2
        have h7 := take_len En (bindF En (exprF En n) (σ.take En (sW tLet)).2).2 (sS tSemi)
        have h8 : bdN (topF En n σ).1 + 4 * (topF En n σ).2.ts.length ≤ 4 * σ.ts.length := by
          show (bindF En (exprF En n) (σ.take En (sW tLet)).2).1.body.nn + 4 * ((bindF En (exprF En n) (σ.take En (sW tLet)).2).2.take En (sS tSemi)).2.ts.length ≤ _
          omega
        simp only [sumOf] at h2
        dsimp only at h2 h4
        exact ⟨by omega, by omega, by omega⟩
/-- What a program that was read is bounded by. -/
structure PFit (N : Nat) (p : Pg) : Prop where
  datas : ∀ d ∈ p.datas, d.fit
  args : ∀ d ∈ p.datas, ∀ c ∈ d.cons, c.args.length ≤ 1000000
  binds : ∀ b ∈ p.binds, b.s.length ≤ 1000000 ∧ b.body.fit
  nn : sumOf bdN p.binds ≤ 4 * N
  nb : p.binds.length ≤ N
  nd : p.datas.length ≤ N
  nc : (p.datas.flatMap Dt.cons).length ≤ N
theorem programF_fit (En n : Nat) (σ : PS) (h : TF σ.ts) : PFit σ.ts.length (programF En n σ).1 := by
  obtain ⟨h1, h2⟩ := programL_fit En n σ.ts.length ⟨[], []⟩ σ h (fun d hd => by simp at hd) (fun d hd => by simp at hd)
  obtain ⟨h3, h4, h5⟩ := programL_few En n σ.ts.length ⟨[], []⟩ σ
  simp only [sumOf, List.length_nil] at h3 h4 h5
  exact ⟨fun d hd => (h1 d hd).1, fun d hd => (h1 d hd).2, h2, by show sumOf bdN (programL En n σ.ts.length ⟨[], []⟩ σ).1.binds ≤ _; omega, by show (programL En n σ.ts.length ⟨[], []⟩ σ).1.binds.length ≤ _; omega, by show (programL En n σ.ts.length ⟨[], []⟩ σ).1.datas.length ≤ _; omega, (programF_ok En n σ).2.2.1⟩
theorem conN_eq : ∀ l : List Dt, conN l = (l.flatMap Dt.cons).length
  | [] => rfl
  | d :: r => by simp only [conN, List.flatMap_cons, List.length_append, conN_eq r]
theorem PFit.empty (N : Nat) : PFit N ⟨[], []⟩ := ⟨fun d hd => by simp at hd, fun d hd => by simp at hd, fun d hd => by simp at hd, Nat.zero_le _, Nat.zero_le _, Nat.zero_le _, by simp⟩

end Go.Proofs.Ytjfogodfpmfhhaa

namespace Go.Proofs.Ytjfogodfpmfhhaa
set_option linter.unusedVariables false
set_option linter.unusedSimpArgs false

/-- Is what an expression names there? cs: Cons, each with how many Args; bd: names that are bound. -/
def nameOk (cs : List (By × Nat)) (bd : List By) (k : Int) (s : By) : Bool :=
  if k = 1 then decide (s ∈ bd) else if k = 2 then decide (s ∈ cs.map Prod.fst) else true
/-- The names that an expression binds in its kid i. -/
def bindsIn (k : Int) (s : By) (i : Nat) : List By := if (k = 6 ∧ i = 0) ∨ (k = 7 ∧ i = 1) then [s] else []
mutual
/-- Where the first is that is wrong. -/
def Ex.wr (cs : List (By × Nat)) (bd : List By) : Ex → Option Int
  | .mk k p s n kids alts => if nameOk cs bd k s = true then (Ex.wrs cs bd k s 0 kids).or (Al.wrs cs bd [] alts) else some p
def Ex.wrs (cs : List (By × Nat)) (bd : List By) (k : Int) (s : By) (i : Nat) : List Ex → Option Int
  | [] => none
  | x :: r => (Ex.wr cs (bindsIn k s i ++ bd) x).or (Ex.wrs cs bd k s (i + 1) r)
def Al.wrs (cs : List (By × Nat)) (bd seen : List By) : List Al → Option Int
  | [] => none
  | .mk p s names b :: r => if (decide ((s, names.length) ∈ cs) && decide (s ∉ seen) && decide names.Nodup) = true then (Ex.wr cs (names ++ bd) b).or (Al.wrs cs bd (s :: seen) r) else some p
end
def consL (l : List Dt) : List (By × Nat) := l.flatMap fun d => d.cons.map fun c => (c.s, c.args.length)
def dupAt : List By → List Bd → Option Int
  | _, [] => none
  | seen, b :: r => if decide (b.s ∉ seen) = true then dupAt (b.s :: seen) r else some b.p
def bodiesAt (cs : List (By × Nat)) (bd : List By) : List Bd → Option Int
  | [] => none
  | b :: r => (b.body.wr cs bd).or (bodiesAt cs bd r)
def bindsAt (cs : List (By × Nat)) (l : List Bd) : Option Int := (dupAt [] l).or (bodiesAt cs (l.map Bd.s) l)

def BdEq (a b : List By) : Prop := ∀ s, s ∈ a ↔ s ∈ b
theorem BdEq.app {a b : List By} (h : BdEq a b) (l : List By) : BdEq (l ++ a) (l ++ b) := fun s => by
  have := h s
  simp [List.mem_append, this]
theorem nameOk_eq {cs cs' : List (By × Nat)} {a b : List By} (hc : ∀ x, x ∈ cs ↔ x ∈ cs') (h : BdEq a b) (k : Int) (s : By) : nameOk cs a k s = nameOk cs' b k s := by
  unfold nameOk
  split
  · exact decide_eq_decide.2 (h s)
  · split
    · refine decide_eq_decide.2 ?_
      simp only [List.mem_map]
      exact ⟨fun ⟨x, h1, h2⟩ => ⟨x, (hc x).1 h1, h2⟩, fun ⟨x, h1, h2⟩ => ⟨x, (hc x).2 h1, h2⟩⟩
    · rfl
mutual
theorem Ex.wr_eq {cs cs' : List (By × Nat)} (hc : ∀ x, x ∈ cs ↔ x ∈ cs') : ∀ (x : Ex) {a b : List By}, BdEq a b → Ex.wr cs a x = Ex.wr cs' b x
  | .mk k p s n kids alts, a, b, h => by
    simp only [Ex.wr]
    rw [nameOk_eq hc h, Ex.wrs_eq hc kids k s 0 h, Al.wrs_eq hc alts [] h]
theorem Ex.wrs_eq {cs cs' : List (By × Nat)} (hc : ∀ x, x ∈ cs ↔ x ∈ cs') : ∀ (l : List Ex) (k : Int) (s : By) (i : Nat) {a b : List By}, BdEq a b → Ex.wrs cs a k s i l = Ex.wrs cs' b k s i l
  | [], k, s, i, a, b, h => by simp only [Ex.wrs]
  | x :: r, k, s, i, a, b, h => by
    simp only [Ex.wrs]
    rw [Ex.wr_eq hc x (h.app _), Ex.wrs_eq hc r k s (i + 1) h]
theorem Al.wrs_eq {cs cs' : List (By × Nat)} (hc : ∀ x, x ∈ cs ↔ x ∈ cs') : ∀ (l : List Al) (seen : List By) {a b : List By}, BdEq a b → Al.wrs cs a seen l = Al.wrs cs' b seen l
  | [], seen, a, b, h => by simp only [Al.wrs]
  | .mk p s names bo :: r, seen, a, b, h => by
    simp only [Al.wrs]
    rw [Ex.wr_eq hc bo (h.app _), Al.wrs_eq hc r (s :: seen) h, decide_eq_decide.2 (hc (s, names.length))]
end
theorem Ex.wrs_next {cs : List (By × Nat)} {bd : List By} {k : Int} {s : By} : ∀ {l : List Ex} {j i : Nat} {x : Ex}, l[i]? = some x → Ex.wrs cs bd k s (j + i) (l.drop i) = (Ex.wr cs (bindsIn k s (j + i) ++ bd) x).or (Ex.wrs cs bd k s (j + (i + 1)) (l.drop (i + 1)))
  | x :: r, j, 0, y, h => by
    simp at h; subst h
    simp only [List.drop_zero, List.drop_succ_cons, Ex.wrs]
  | x :: r, j, i + 1, y, h => by
    have := Ex.wrs_next (cs := cs) (bd := bd) (k := k) (s := s) (l := r) (j := j + 1) (i := i) (x := y) (by simpa using h)
    rw [show j + 1 + i = j + (i + 1) by omega, show j + 1 + (i + 1) = j + (i + 1 + 1) by omega] at this
    simpa using this
  | [], _, _, _, h => by simp at h
theorem Ex.nns_drop : ∀ {l : List Ex} {i : Nat} {x : Ex}, l[i]? = some x → Ex.nns (l.drop i) = 1 + x.nn + Ex.nns (l.drop (i + 1))
  | x :: r, 0, y, h => by simp at h; subst h; simp only [List.drop_zero, List.drop_succ_cons, Ex.nns]
  | x :: r, i + 1, y, h => by have := Ex.nns_drop (l := r) (i := i) (x := y) (by simpa using h); simpa using this
  | [], _, _, h => by simp at h
theorem Al.nns_drop : ∀ {l : List Al} {i : Nat} {x : Al}, l[i]? = some x → Al.nns (l.drop i) = x.nn + Al.nns (l.drop (i + 1))
  | x :: r, 0, y, h => by simp at h; subst h; simp only [List.drop_zero, List.drop_succ_cons, Al.nns]
  | x :: r, i + 1, y, h => by have := Al.nns_drop (l := r) (i := i) (x := y) (by simpa using h); simpa using this
  | [], _, _, h => by simp at h
theorem Ex.nns_mem {l : List Ex} {x : Ex} (h : x ∈ l) : x.nn < Ex.nns l := by
  obtain ⟨i, hi, rfl⟩ := List.mem_iff_getElem.1 h
  have := Ex.nns_drop (l := l) (i := i) (x := l[i]) (List.getElem?_eq_getElem hi)
  have h2 : Ex.nns (l.drop i) ≤ Ex.nns l := by
    have := Ex.nns_app (l.take i) (l.drop i)
    rw [List.take_append_drop] at this; omega
  omega
theorem Al.nns_mem {l : List Al} {x : Al} (h : x ∈ l) : x.nn ≤ Al.nns l := by
  obtain ⟨i, hi, rfl⟩ := List.mem_iff_getElem.1 h
  have := Al.nns_drop (l := l) (i := i) (x := l[i]) (List.getElem?_eq_getElem hi)
  have h2 : Al.nns (l.drop i) ≤ Al.nns l := by
    have := Al.nns_app (l.take i) (l.drop i)
    rw [List.take_append_drop] at this; omega
  omega

end Go.Proofs.Ytjfogodfpmfhhaa

namespace Go.Proofs.Ytjfogodfpmfhhaa
open Go.RowKit Go.Maps
open Go.WideMaps (KeyLaw)
open Go.ChangeMaps (setBlock)
set_option linter.unusedVariables false
set_option linter.unusedSimpArgs false

/-- What a name may be bound as. -/
structure BK where
  k : Nat
  s : By
  n : Nat
deriving DecidableEq
def vK (s : By) : BK := ⟨1, s, 0⟩
def cK (s : By) : BK := ⟨2, s, 0⟩
def pK (x : By × Nat) : BK := ⟨3, x.1, x.2⟩
def bkV (v : BK) : Value := .agg #[.int .i64 (v.k : Int), .string (strB v.s), .int .i64 (v.n : Int)]
def bkFit (v : BK) : Prop := v.k ≤ 3 ∧ v.s.length ≤ 1000000 ∧ v.n ≤ 1000000
theorem bkV_inj {a b : BK} (h : bkV a = bkV b) : a = b := by
  obtain ⟨k, s, n⟩ := a
  obtain ⟨k', s', n'⟩ := b
  unfold bkV at h
  simp at h
  obtain ⟨h1, h2, h3⟩ := h
  simp only [BK.mk.injEq]
  exact ⟨by omega, strB_inj h2, by omega⟩
theorem Try.bkWide : (match Try.prog.underlying 126 with | some (.array _ _) | some (.struct _) => true | _ => false) = true := by kernel_rfl
theorem Try.bkDeep : Try.prog.keyTypeAt 2 126 = true := by kernel_rfl
theorem Try.bkCells : Try.prog.cellsOf 126 = 3 := by kernel_rfl
theorem Try.bkType : Try.prog.keyType 126 = true := by kernel_rfl
theorem Try.bkRow : (126 : TypeId) < Try.prog.types.size := of_decide_eq_true (by kernel_rfl)
set_option maxRecDepth 100000 in
theorem Try.bkLaw : KeyLaw Try.prog 126 := deep_law_laid Try.sortLaid (m := 2) (by omega) Try.bkRow Try.bkDeep Try.bkWide
theorem Try.bkKeyed : Keyed Try.prog 126 := Keyed.of_law Try.bkLaw
theorem bk_key {s : BK} (h : bkFit s) : ∃ l, keyOf Try.prog 126 (bkV s) = some l := by
  obtain ⟨m, hm⟩ := Try.typesPos2
  obtain ⟨h0, h1, h2⟩ := h
  have hs2 : (strB s.s).size ≤ maxLen := by rw [strB_size]; unfold maxLen; omega
  unfold keyOf bkV
  simp only [Try.underlying126, Try.bkType]
  rw [hm]
  simp [Program.keyLits, Value.formed, Try.underlying126, Try.bkCells, Try.intCells, Try.strCells, Try.underlying3, Try.underlying9, Value.cells, fits_wf (x := (s.k : Int)) (by unfold fits; omega), fits_wf (x := (s.n : Int)) (by unfold fits; omega), hs2]

def CInv (l : List BK) (D : DataW Unit) : Prop := IsMap D ∧ ∀ (s : BK) (kl : Lit), bkFit s → keyOf Try.prog 126 (bkV s) = some kl → D.atKey kl (.lit (.int .i64 0)) = .lit (.int .i64 ((l.count s : Nat) : Int))
/-- Block b is a map that tells how often each stands in the list. -/
def CM (w : World) (b n : Nat) (l : List BK) : Prop := ∃ D, w.ownsMap Try.prog 126 (plainElem Try.prog 3) b n D ∧ CInv l D
theorem cinv_nil : CInv [] (.map []) := ⟨isMap_empty, fun s kl _ _ => by simp; rfl⟩
theorem cinv_put {l l' : List BK} {v : BK} {D : DataW Unit} (h : CInv l D) {kl : Lit} (hk : keyOf Try.prog 126 (bkV v) = some kl) (ho : ∀ s, s ≠ v → l'.count s = l.count s) : CInv l' (D.put kl (.lit (.int .i64 ((l'.count v : Nat) : Int)))) := by
  have hl := Try.bkKeyed.key hk
  refine ⟨h.1.put _ _, fun s kl' hs hk' => ?_⟩
  have h2 := h.2 s kl' hs hk'
  by_cases e : v = s
  · subst e
    rw [hk] at hk'
    obtain rfl := Option.some.inj hk'
    rw [atKey_put_same h.1 hl]
  · have hne : kl' ≠ kl := fun q => e (bkV_inj (Try.bkKeyed.inj hk (q ▸ hk')))
    rw [atKey_put_other hne, h2, ho s (fun q => e q.symm)]
theorem CM.agree {w w' : World} {b n : Nat} {l : List BK} (h : CM w b n l) (hb : w'.heap[b]? = w.heap[b]?) : CM w' b n l := by
  obtain ⟨D, h1, h2⟩ := h; exact ⟨D, ownsMap_agree h1 hb, h2⟩
theorem CM.lt {w : World} {b n : Nat} {l : List BK} (h : CM w b n l) : b < w.heap.size := by
  obtain ⟨D, h1, h2⟩ := h; exact ownsMap_lt h1
theorem CM.below {w w' : World} {b n : Nat} {l : List BK} (h : CM w b n l) (hb : Below w.heap.size w w') : CM w' b n l := h.agree (hb.block b h.lt)
theorem CM.perm {w : World} {b n : Nat} {l l' : List BK} (h : CM w b n l) (hp : ∀ s, l'.count s = l.count s) : CM w b n l' := by
  obtain ⟨D, h1, h2⟩ := h
  exact ⟨D, h1, h2.1, fun s kl hs hk => by rw [h2.2 s kl hs hk, hp s]⟩
theorem CM.made (w : World) : CM (w.alloc (.map #[] 0)) w.heap.size 0 [] := ⟨_, World.ownsMap_made _ _ _ _, by simpa using cinv_nil⟩
theorem CM.look {w : World} {b n : Nat} {l : List BK} (h : CM w b n l) (v : BK) (hv : bkFit v) :
    Sem.run Try.prog (Instr.lookup 122 (.map (some b)) (bkV v) false) w = .ok (.int .i64 ((l.count v : Nat) : Int)) w := by
  obtain ⟨D, hm, hi⟩ := h
  obtain ⟨kl, hkl⟩ := bk_key hv
  exact look_plain Try.bkKeyed Try.underlying122 Try.underlying3 (Try.zzeroInt _) hm hkl (hi.2 v kl hv hkl)
/-- How often v is bound is turned. -/
theorem CM.store {w : World} {b n : Nat} {l l' : List BK} (h : CM w b n l) (hn : n ≤ 10000000) (v : BK) (hv : bkFit v) (ho : ∀ s, s ≠ v → l'.count s = l.count s) (hl : l'.count v ≤ 100000000) {c : Int} (hc : ((l'.count v : Nat) : Int) = c) :
    ∃ w', Sem.run Try.prog (Instr.mapUpdate 122 (.map (some b)) (bkV v) (.int .i64 c)) w = .ok () w' ∧ CM w' b (n + 1) l' ∧ w.grownBy w' (some b) ∧ w'.heap.size = w.heap.size := by
  subst hc
  obtain ⟨D, hm, hi⟩ := h
  obtain ⟨kl, hkl⟩ := bk_key hv
  have hkw : (Lit.int .i64 ((l'.count v : Nat) : Int)).wf = true := WalkArith.wf_i64 (by omega)
  obtain ⟨w9, hrun9, hown9, hturn9⟩ := World.ownsMap.store hm Try.bkKeyed Try.underlying122 (show n < maxLen by unfold maxLen; omega) hkl (plainElem_int Try.underlying3 hkw)
  refine ⟨w9, hrun9, ⟨_, hown9, cinv_put hi hkl ho⟩, hturn9.grown, ?_⟩
  obtain ⟨_, _, _, _, _, rfl⟩ := hturn9
  simp [ChangeMaps.setBlock]

def scL (cs : List (By × Nat)) (bd : List By) : List BK := bd.map vK ++ cs.flatMap fun c => [cK c.1, pK c]
/-- Block b is a scope: these Cons, these names. -/
def SC (w : World) (b n : Nat) (cs : List (By × Nat)) (bd : List By) : Prop := CM w b n (scL cs bd)
theorem scL_v {cs : List (By × Nat)} {bd : List By} {s : By} : vK s ∈ scL cs bd ↔ s ∈ bd := by
  simp [scL, vK, cK, pK]
theorem scL_c {cs : List (By × Nat)} {bd : List By} {s : By} : cK s ∈ scL cs bd ↔ s ∈ cs.map Prod.fst := by
  simp [scL, vK, cK, pK]
theorem scL_p {cs : List (By × Nat)} {bd : List By} {x : By × Nat} : pK x ∈ scL cs bd ↔ x ∈ cs := by
  obtain ⟨s, n⟩ := x
  simp [scL, vK, cK, pK]
theorem scL_len (cs : List (By × Nat)) (bd : List By) : (scL cs bd).length = bd.length + 2 * cs.length := by
  unfold scL
  rw [List.length_append, List.length_map]
  congr 1
  induction cs with
  | nil => rfl
  | cons c r ih => rw [List.flatMap_cons, List.length_append, ih, List.length_cons]; simp; omega
theorem scL_count {cs : List (By × Nat)} {a b : List By} (h : ∀ s, a.count s = b.count s) (s : BK) : (scL cs a).count s = (scL cs b).count s := by
  have hp : a.Perm b := List.perm_iff_count.2 h
  unfold scL
  exact ((hp.map vK).append_right _).count_eq s
theorem SC.perm {w : World} {b n : Nat} {cs : List (By × Nat)} {bd bd' : List By} (h : SC w b n cs bd) (hp : bd.Perm bd') : SC w b n cs bd' := CM.perm h fun s => scL_count (fun t => (hp.count_eq t).symm) s
theorem SC.agree {w w' : World} {b n : Nat} {cs : List (By × Nat)} {bd : List By} (h : SC w b n cs bd) (hb : w'.heap[b]? = w.heap[b]?) : SC w' b n cs bd := CM.agree h hb
theorem SC.lt {w : World} {b n : Nat} {cs : List (By × Nat)} {bd : List By} (h : SC w b n cs bd) : b < w.heap.size := CM.lt h
theorem SC.below {w w' : World} {b n : Nat} {cs : List (By × Nat)} {bd : List By} (h : SC w b n cs bd) (hb : Below w.heap.size w w') : SC w' b n cs bd := CM.below h hb
theorem vK_fit {s : By} (h : s.length ≤ 1000000) : bkFit (vK s) := ⟨by show 1 ≤ 3; omega, h, Nat.zero_le _⟩
theorem cK_fit {s : By} (h : s.length ≤ 1000000) : bkFit (cK s) := ⟨by show 2 ≤ 3; omega, h, Nat.zero_le _⟩
theorem pK_fit {x : By × Nat} (h : x.1.length ≤ 1000000) (h2 : x.2 ≤ 1000000) : bkFit (pK x) := ⟨by show 3 ≤ 3; omega, h, h2⟩

theorem setBlock_self {w : World} {r : Nat} {o : Obj} (h : w.heap[r]? = some o) : setBlock w r o = w := by
  unfold setBlock
  have : w.heap.setIfInBounds r o = w.heap := by
    apply Array.ext'
    simp only [Array.toList_setIfInBounds]
    apply List.ext_getElem?
    intro j
    rw [List.getElem?_set]
    split
    · next e =>
      subst e
      have h2 : w.heap.toList[r]? = some o := by simpa using h
      have h3 : r < w.heap.toList.length := (List.getElem?_eq_some_iff.1 h2).1
      rw [if_pos h3, h2]
    · rfl
  rw [this]
theorem grown_block {w : World} {b : Nat} {es es' : Array MapEntry} {c c' : Nat} (hb : w.heap[b]? = some (.map es c)) : w.grownBy (setBlock w b (.map es' c')) (some b) := ⟨rfl, rfl, rfl, by simp [setBlock], fun i _ hi => ChangeMaps.heap_setBlock_other hb _ (fun e => hi (by rw [e]))⟩
/-- 'm[k] op= x': the entry is looked for (and made, if there is none), and stored to later. -/
theorem CM.entry {w : World} {b n : Nat} {l : List BK} (h : CM w b n l) (hn : n ≤ 9000000) (v : BK) (hv : bkFit v) :
    ∃ (v0 : Value) (st : Nat) (w1 : World), Sem.run Try.prog (Instr.mapEntry 122 (.map (some b)) (bkV v)) w = .ok (.tuple #[v0, goInt st]) w1 ∧ CM w1 b (n + 1) l ∧ w.grownBy w1 (some b) ∧ w1.heap.size = w.heap.size ∧
      ∀ (l' : List BK) (c : Int), (∀ s, s ≠ v → l'.count s = l.count s) → l'.count v ≤ 100000000 → ((l'.count v : Nat) : Int) = c → ∃ w3, Sem.run Try.prog (Instr.entryStore 122 (.map (some b)) (goInt st) (.int .i64 c)) w1 = .ok () w3 ∧ CM w3 b (n + 1) l' ∧ w1.grownBy w3 (some b) ∧ w3.heap.size = w1.heap.size := by
  have h0 := h
  obtain ⟨D, hm, hi⟩ := h
  obtain ⟨kl, hkl⟩ := bk_key hv
  have hm0 := hm
  obtain ⟨es, clock, hb, F, hs, hD⟩ := hm
  obtain ⟨v0, st, es1, clock1, hrun, _, hst⟩ := WideElems.entry_then_store Try.bkLaw Try.underlying122 (fun u => Try.zzeroInt u) hb F hkl
  refine ⟨v0, st, setBlock w b (.map es1 clock1), hrun, ?_, grown_block hb, by simp [setBlock], ?_⟩
  · rcases Try.bkLaw.find w hkl es.toList F.keys with ⟨h1, h2⟩ | ⟨j, e0, h1, h2, h3⟩
    · have hc0 : l.count v = 0 := by
        have e1 := h0.look v hv
        have e2 : Sem.run Try.prog (Instr.lookup 122 (.map (some b)) (bkV v) false) w = .ok (.int .i64 0) w := by
          simp [Instr.lookup, run_underlying Try.underlying122, MapKept.run_getObj_map hb, Try.bkLaw.check w _ hkl, h1, Try.zzeroInt, Result.andThen]
        rw [e1] at e2
        simpa using e2
      have e3 : Sem.run Try.prog (Instr.mapEntry 122 (.map (some b)) (bkV v)) w = .ok (.tuple #[.int .i64 0, goInt clock]) (setBlock w b (.map (es.push ⟨bkV v, .int .i64 0, clock⟩) (clock + 1))) := by
        simp [Instr.mapEntry, run_underlying Try.underlying122, MapKept.run_getObj_map hb, Try.bkLaw.check w false hkl, h1, Try.zzeroInt, MapKept.run_setObj_map _ hb, Result.andThen, setBlock]
      have e4 : Sem.run Try.prog (Instr.mapUpdate 122 (.map (some b)) (bkV v) (.int .i64 0)) w = .ok () (setBlock w b (.map (es.push ⟨bkV v, .int .i64 0, clock⟩) (clock + 1))) := by
        simp [Instr.mapUpdate, run_underlying Try.underlying122, MapKept.run_getObj_map hb, Try.bkLaw.check w false hkl, h1, MapKept.run_setObj_map _ hb, Result.andThen, setBlock]
      obtain ⟨w9, h5, h6, _, _⟩ := h0.store (l' := l) (by omega) v hv (fun s _ => rfl) (by omega) (c := 0) (by rw [hc0]; rfl)
      rw [hrun] at e3
      rw [e4] at h5
      have e5 : setBlock w b (.map es1 clock1) = setBlock w b (.map (es.push ⟨bkV v, .int .i64 0, clock⟩) (clock + 1)) := by
        injection e3
      have e6 : setBlock w b (.map (es.push ⟨bkV v, .int .i64 0, clock⟩) (clock + 1)) = w9 := by
        injection h5
      rw [e5, e6]
      exact h6
    · have hj : es[j]? = some e0 := by simpa using h2
      have hsame : es.modify j (fun e => { e with key := bkV v }) = es := by
        apply Array.ext'
        rw [Array.toList_modify, ChangeMaps.modify_eq_set _ _ _ _ h2]
        have : ({ e0 with key := bkV v } : MapEntry) = e0 := by rw [← h3]
        rw [this]
        exact WideElems.set_self _ _ _ h2
      have e3 : Sem.run Try.prog (Instr.mapEntry 122 (.map (some b)) (bkV v)) w = .ok (.tuple #[e0.val, goInt e0.born]) (setBlock w b (.map es clock)) := by
        simp [Instr.mapEntry, run_underlying Try.underlying122, MapKept.run_getObj_map hb, Try.bkLaw.check w false hkl, h1, hj, h3, Try.bkLaw.stays w hkl, hsame, MapKept.run_setObj_map _ hb, Result.andThen, setBlock]
      rw [hrun] at e3
      have e5 : setBlock w b (.map es1 clock1) = setBlock w b (.map es clock) := by
        injection e3
      rw [e5, setBlock_self hb]
      exact ⟨D, ⟨es, clock, hb, F, by omega, hD⟩, hi⟩
  · intro l' c ho hl hc
    obtain ⟨es', clock', h1, h2⟩ := hst (setBlock w b (.map es1 clock1)) (.int .i64 c) (ChangeMaps.heap_setBlock_same hb _)
    obtain ⟨w9, h5, h6, _, _⟩ := h0.store (l' := l') (by omega) v hv ho hl hc
    rw [h2] at h5
    have e6 : setBlock w b (.map es' clock') = w9 := by
      injection h5
    have hbb : (setBlock w b (.map es1 clock1)).heap[b]? = some (.map es1 clock1) := ChangeMaps.heap_setBlock_same hb _
    refine ⟨_, h1, h6.agree ?_, grown_block hbb, by simp [setBlock]⟩
    rw [← e6, ChangeMaps.heap_setBlock_same hbb, ChangeMaps.heap_setBlock_same hb]

def bkBox (w : World) (g : Nat) (v : BK) : Prop := Box w g 126 [.int .i64 (v.k : Int), .string (strB v.s), .int .i64 (v.n : Int)]
set_option maxRecDepth 100000 in
set_option maxHeartbeats 4000000 in
theorem k_enter (w : World) (b n : Nat) (l : List BK) (v : BK) (h0 : CM w b n l) (hn : n ≤ 9000000) (hl : l.length ≤ 90000000) (hv : bkFit v) {r : Bool} (hr : decide (v ∉ l) = r) :
    Calls Try.prog 63 #[.map (some b), bkV v] w fun e w' => e = .returned (.bool r) ∧ CM w' b (n + 1) (v :: l) ∧ Out (fun q => q = b) w w' := by
  have hbw := h0.lt
  obtain ⟨W, hW⟩ : ∃ W, (w.alloc (.cells #[.int .i64 (v.k : Int), .string (strB v.s), .int .i64 (v.n : Int)] 126)).drew = W := ⟨_, rfl⟩
  have h : CM W b n l := hW ▸ h0.below (((Below.refl _ w).alloc (Nat.le_refl _) (.cells #[.int .i64 (v.k : Int), .string (strB v.s), .int .i64 (v.n : Int)] 126)).drew)
  have ho : Out (fun q => q = b) w W := hW ▸ ((Out.refl _ w).alloc _).drew
  have hbx : bkBox W w.heap.size v := hW ▸ (Box.new w 126 [.int .i64 (v.k : Int), .string (strB v.s), .int .i64 (v.n : Int)]).drew
  clear h0
  obtain ⟨c, hc⟩ : ∃ c, l.count v = c := ⟨_, rfl⟩
  have hcl : c ≤ 90000000 := by rw [← hc]; exact Nat.le_trans List.count_le_length hl
  have hc1 : (v :: l).count v = c + 1 := by rw [List.count_cons_self, hc]
  obtain ⟨v0, st, w1, hrun, hm1, hg1, hz1, hst⟩ := h.entry hn v hv
  obtain ⟨w3, hrun3, hm3, hg3, hz3⟩ := hst (v :: l) ((c : Int) + 1) (fun s hs => by rw [List.count_cons_of_ne (fun q => hs q.symm)]) (by omega) (by rw [hc1]; rfl)
  have hlook := h.look v hv
  have hlook1 := hm1.look v hv
  have hlook3 := hm3.look v hv
  rw [hc] at hlook hlook1
  rw [hc1] at hlook3
  have e1 : ((c + 1 : Nat) : Int) = (c : Int) + 1 := rfl
  rw [e1] at hlook3
  have hbx1 : bkBox w1 w.heap.size v := Box.grown hbx hg1 (fun q => by have := Option.some.inj q; omega)
  have hbx3 : bkBox w3 w.heap.size v := Box.grown hbx1 hg3 (fun q => by have := Option.some.inj q; omega)
  unfold bkBox at hbx hbx1 hbx3
  unfold bkV at hlook hlook1 hlook3 hrun ⊢
  have hrr : (((c : Int) + 1 == 1) : Bool) = r := by
    rw [← hr]
    by_cases h0 : c = 0
    · subst h0
      have : v ∉ l := List.count_eq_zero.1 hc
      simp [this]
    · have : v ∈ l := List.count_pos_iff.1 (by omega)
      simp [this]; omega
  have HNM := Lib.hid hm3
  have HO := Lib.hid ((ho.grown hg1 (fun q hq => .inl (Option.some.inj hq).symm)).grown hg3 (fun q hq => .inl (Option.some.inj hq).symm))
  have hl1 := hbx1.lt
  have hl3 := hbx3.lt
  obtain ⟨ZS, hZS⟩ : ∃ ZS, strB v.s = ZS := ⟨_, rfl⟩
  obtain ⟨ZK, hZK⟩ : ∃ ZK, (v.k : Int) = ZK := ⟨_, rfl⟩
  obtain ⟨ZN, hZN⟩ : ∃ ZN, (v.n : Int) = ZN := ⟨_, rfl⟩
  unfold goInt at hrun hrun3
  obtain ⟨SI, hSI⟩ : ∃ SI : Int, (st : Int) = SI := ⟨_, rfl⟩
  rw [hSI] at hrun hrun3
  rw [hZS, hZK, hZN] at hlook hlook1 hlook3 hrun hbx hbx1 hbx3 hW ⊢
  subst hW
  obtain ⟨_, _, _, _, _, _⟩ := hbx1.three
  obtain ⟨_, _, _, _, _, _⟩ := hbx3.three
  clear h hr hc hc1 hm1 hm3 hg1 hg3 hz1 hz3 hst hv hZS hZK hZN ho hbx hbx1 hbx3 hSI e1
  go_enter Try.func63, Try.ntmps63
  go_wp2_with fail
  go_region
  all_goals go_wp2_with fail
  all_goals go_ret
  all_goals exact ⟨rfl, HNM.out, HO.out⟩

set_option maxRecDepth 100000 in
set_option maxHeartbeats 4000000 in
theorem k_leave (w : World) (b n : Nat) (l : List BK) (v : BK) (h0 : CM w b n (v :: l)) (hn : n ≤ 9000000) (hl : l.length ≤ 90000000) (hv : bkFit v) :
    Calls Try.prog 140 #[.map (some b), bkV v] w fun e w' => e = .returned (.tuple #[]) ∧ CM w' b (n + 1) l ∧ Out (fun q => q = b) w w' := by
  have hbw := h0.lt
  obtain ⟨W, hW⟩ : ∃ W, (w.alloc (.cells #[.int .i64 (v.k : Int), .string (strB v.s), .int .i64 (v.n : Int)] 126)).drew = W := ⟨_, rfl⟩
  have h : CM W b n (v :: l) := hW ▸ h0.below (((Below.refl _ w).alloc (Nat.le_refl _) (.cells #[.int .i64 (v.k : Int), .string (strB v.s), .int .i64 (v.n : Int)] 126)).drew)
  have ho : Out (fun q => q = b) w W := hW ▸ ((Out.refl _ w).alloc _).drew
  have hbx : bkBox W w.heap.size v := hW ▸ (Box.new w 126 [.int .i64 (v.k : Int), .string (strB v.s), .int .i64 (v.n : Int)]).drew
  clear h0
  obtain ⟨c, hc⟩ : ∃ c, l.count v = c := ⟨_, rfl⟩
  have hcl : c ≤ 90000000 := by rw [← hc]; exact Nat.le_trans List.count_le_length hl
  have hc1 : (v :: l).count v = c + 1 := by rw [List.count_cons_self, hc]
  obtain ⟨v0, st, w1, hrun, hm1, hg1, hz1, hst⟩ := h.entry hn v hv
  obtain ⟨w3, hrun3, hm3, hg3, hz3⟩ := hst l (c : Int) (fun s hs => by rw [List.count_cons_of_ne (fun q => hs q.symm)]) (by omega) (by rw [hc])
  have hlook := h.look v hv
  have hlook1 := hm1.look v hv
  rw [hc1] at hlook hlook1
  have e1 : ((c + 1 : Nat) : Int) = (c : Int) + 1 := rfl
  rw [e1] at hlook hlook1
  have hbx1 : bkBox w1 w.heap.size v := Box.grown hbx hg1 (fun q => by have := Option.some.inj q; omega)
  unfold bkBox at hbx hbx1
  unfold bkV at hlook hlook1 hrun ⊢
  have hsub : (c : Int) + 1 - 1 = c := by omega
  have HNM := Lib.hid hm3
  have HO := Lib.hid ((ho.grown hg1 (fun q hq => .inl (Option.some.inj hq).symm)).grown hg3 (fun q hq => .inl (Option.some.inj hq).symm))
  have hl1 := hbx1.lt
  obtain ⟨ZS, hZS⟩ : ∃ ZS, strB v.s = ZS := ⟨_, rfl⟩
  obtain ⟨ZK, hZK⟩ : ∃ ZK, (v.k : Int) = ZK := ⟨_, rfl⟩
  obtain ⟨ZN, hZN⟩ : ∃ ZN, (v.n : Int) = ZN := ⟨_, rfl⟩
  unfold goInt at hrun hrun3
  obtain ⟨SI, hSI⟩ : ∃ SI : Int, (st : Int) = SI := ⟨_, rfl⟩
  rw [hSI] at hrun hrun3
  rw [hZS, hZK, hZN] at hlook hlook1 hrun hbx hbx1 hW ⊢
  subst hW
  obtain ⟨_, _, _, _, _, _⟩ := hbx1.three
  clear h hc hc1 hm1 hm3 hg1 hg3 hz1 hz3 hst hv hZS hZK hZN ho hbx hbx1 hSI e1
  go_enter Try.func140, Try.ntmps140
  go_wp2_with fail
  go_region
  all_goals go_wp2_with fail
  all_goals refine bodyPost_end (results_none rfl _ _ _) rfl ?_
  all_goals exact ⟨rfl, HNM.out, HO.out⟩

set_option maxRecDepth 100000 in
set_option maxHeartbeats 4000000 in
theorem k_has (w : World) (b n : Nat) (l : List BK) (v : BK) (h0 : CM w b n l) (hl : l.length ≤ 90000000) (hv : bkFit v) {r : Bool} (hr : decide (v ∈ l) = r) :
    Calls Try.prog 139 #[.map (some b), bkV v] w fun e w' => e = .returned (.bool r) ∧ Below w.heap.size w w' := by
  have hb : Below w.heap.size w (w.alloc (.cells #[.int .i64 (v.k : Int), .string (strB v.s), .int .i64 (v.n : Int)] 126)) := (Below.refl _ w).alloc (Nat.le_refl _) _
  have h := h0.below hb
  clear h0
  have HB := Lib.hid hb
  clear hb
  obtain ⟨c, hc⟩ : ∃ c, l.count v = c := ⟨_, rfl⟩
  have hcl : c ≤ 90000000 := by rw [← hc]; exact Nat.le_trans List.count_le_length hl
  have hlook := h.look v hv
  rw [hc] at hlook
  unfold bkV at hlook ⊢
  have hrr : (decide (0 < c)) = r := by
    rw [← hr]
    by_cases h0 : c = 0
    · subst h0
      have : v ∉ l := List.count_eq_zero.1 hc
      simp [this]
    · have : v ∈ l := List.count_pos_iff.1 (by omega)
      simp [this]; omega
  obtain ⟨ZS, hZS⟩ : ∃ ZS, strB v.s = ZS := ⟨_, rfl⟩
  obtain ⟨ZK, hZK⟩ : ∃ ZK, (v.k : Int) = ZK := ⟨_, rfl⟩
  obtain ⟨ZN, hZN⟩ : ∃ ZN, (v.n : Int) = ZN := ⟨_, rfl⟩
  rw [hZS, hZK, hZN] at hlook HB ⊢
  clear h hr hc hv hZS hZK hZN
  go_enter Try.func139, Try.ntmps139
  go_wp2_with fail
  go_ret
  exact ⟨rfl, HB.out⟩

end Go.Proofs.Ytjfogodfpmfhhaa

namespace Go.Proofs.Ytjfogodfpmfhhaa
open Go.RowKit Go.Maps
set_option linter.unusedVariables false
set_option linter.unusedSimpArgs false

set_option maxHeartbeats 2000000 in
theorem k_svar (s : ByteArray) (w : World) : Calls Try.prog 64 #[.string s] w fun e w' => e = .returned (.agg #[.int .i64 1, .string s, .int .i64 0]) ∧ Below w.heap.size w w' := by
  go_enter Try.func64, Try.ntmps64
  go_wp2_with fail
  refine bodyPost_ret (v := .agg #[.int .i64 1, .string s, .int .i64 0]) (by simp only [results, Try.results64]; go_simp <;> rfl) rfl ⟨rfl, ?_⟩
  repeat (first | exact Below.refl _ _ | refine Below.setCell ?_ (by simp) _ | refine Below.alloc ?_ (by simp) _)
set_option maxHeartbeats 2000000 in
theorem k_conK (s : ByteArray) (w : World) : Calls Try.prog 105 #[.string s] w fun e w' => e = .returned (.agg #[.int .i64 2, .string s, .int .i64 0]) ∧ Below w.heap.size w w' := by
  go_enter Try.func105, Try.ntmps105
  go_wp2_with fail
  refine bodyPost_ret (v := .agg #[.int .i64 2, .string s, .int .i64 0]) (by simp only [results, Try.results105]; go_simp <;> rfl) rfl ⟨rfl, ?_⟩
  repeat (first | exact Below.refl _ _ | refine Below.setCell ?_ (by simp) _ | refine Below.alloc ?_ (by simp) _)
set_option maxHeartbeats 2000000 in
theorem k_pattern (s : ByteArray) (n : Int) (w : World) : Calls Try.prog 106 #[.string s, .int .i64 n] w fun e w' => e = .returned (.agg #[.int .i64 3, .string s, .int .i64 n]) ∧ Below w.heap.size w w' := by
  go_enter Try.func106, Try.ntmps106
  go_wp2_with fail
  refine bodyPost_ret (v := .agg #[.int .i64 3, .string s, .int .i64 n]) (by simp only [results, Try.results106]; go_simp <;> rfl) rfl ⟨rfl, ?_⟩
  repeat (first | exact Below.refl _ _ | refine Below.setCell ?_ (by simp) _ | refine Below.alloc ?_ (by simp) _)

theorem SC.hasV {w : World} {b n : Nat} {cs : List (By × Nat)} {bd : List By} (h : SC w b n cs bd) {s : By} (hs : s.length ≤ 1000000) (hl : bd.length + 2 * cs.length ≤ 90000000) {z : ByteArray} (hz : strB s = z) :
    Calls Try.prog 139 #[.map (some b), .agg #[.int .i64 1, .string z, .int .i64 0]] w fun e w' => e = .returned (.bool (decide (s ∈ bd))) ∧ Below w.heap.size w w' := by
  subst hz
  exact k_has w b n _ (vK s) h (by rw [scL_len]; exact hl) (vK_fit hs) (decide_eq_decide.2 scL_v)
theorem SC.hasC {w : World} {b n : Nat} {cs : List (By × Nat)} {bd : List By} (h : SC w b n cs bd) {s : By} (hs : s.length ≤ 1000000) (hl : bd.length + 2 * cs.length ≤ 90000000) {z : ByteArray} (hz : strB s = z) :
    Calls Try.prog 139 #[.map (some b), .agg #[.int .i64 2, .string z, .int .i64 0]] w fun e w' => e = .returned (.bool (decide (s ∈ cs.map Prod.fst))) ∧ Below w.heap.size w w' := by
  subst hz
  exact k_has w b n _ (cK s) h (by rw [scL_len]; exact hl) (cK_fit hs) (decide_eq_decide.2 scL_c)
theorem SC.hasP {w : World} {b n : Nat} {cs : List (By × Nat)} {bd : List By} (h : SC w b n cs bd) {s : By} {m : Nat} (hs : s.length ≤ 1000000) (hm : m ≤ 1000000) (hl : bd.length + 2 * cs.length ≤ 90000000) {z : ByteArray} (hz : strB s = z) :
    Calls Try.prog 139 #[.map (some b), .agg #[.int .i64 3, .string z, .int .i64 (m : Int)]] w fun e w' => e = .returned (.bool (decide ((s, m) ∈ cs))) ∧ Below w.heap.size w w' := by
  subst hz
  exact k_has w b n _ (pK (s, m)) h (by rw [scL_len]; exact hl) (pK_fit hs hm) (decide_eq_decide.2 scL_p)
theorem SC.enterV {w : World} {b n : Nat} {cs : List (By × Nat)} {bd : List By} (h : SC w b n cs bd) {s : By} (hs : s.length ≤ 1000000) (hn : n ≤ 9000000) (hl : bd.length + 2 * cs.length ≤ 90000000) {z : ByteArray} (hz : strB s = z) :
    Calls Try.prog 63 #[.map (some b), .agg #[.int .i64 1, .string z, .int .i64 0]] w fun e w' => e = .returned (.bool (decide (s ∉ bd))) ∧ SC w' b (n + 1) cs (s :: bd) ∧ Out (fun q => q = b) w w' := by
  subst hz
  exact k_enter w b n _ (vK s) h hn (by rw [scL_len]; exact hl) (vK_fit hs) (decide_eq_decide.2 (not_congr scL_v))
theorem SC.leaveV {w : World} {b n : Nat} {cs : List (By × Nat)} {bd : List By} {s : By} (h : SC w b n cs (s :: bd)) (hs : s.length ≤ 1000000) (hn : n ≤ 9000000) (hl : bd.length + 2 * cs.length ≤ 90000000) {z : ByteArray} (hz : strB s = z) :
    Calls Try.prog 140 #[.map (some b), .agg #[.int .i64 1, .string z, .int .i64 0]] w fun e w' => e = .returned (.tuple #[]) ∧ SC w' b (n + 1) cs bd ∧ Out (fun q => q = b) w w' := by
  subst hz
  exact k_leave w b n _ (vK s) h hn (by rw [scL_len]; exact hl) (vK_fit hs)
/-- A map of Cons' names that came: as a scope without names. -/
theorem CM.enterC {w : World} {b n : Nat} {l : List BK} (h : CM w b n l) {s : By} (hs : s.length ≤ 1000000) (hn : n ≤ 9000000) (hl : l.length ≤ 90000000) {z : ByteArray} (hz : strB s = z) :
    Calls Try.prog 63 #[.map (some b), .agg #[.int .i64 2, .string z, .int .i64 0]] w fun e w' => e = .returned (.bool (decide (cK s ∉ l))) ∧ CM w' b (n + 1) (cK s :: l) ∧ Out (fun q => q = b) w w' := by
  subst hz
  exact k_enter w b n _ (cK s) h hn hl (cK_fit hs) rfl
theorem CM.enterP {w : World} {b n : Nat} {l : List BK} (h : CM w b n l) {s : By} {m : Nat} (hs : s.length ≤ 1000000) (hm : m ≤ 1000000) (hn : n ≤ 9000000) (hl : l.length ≤ 90000000) {z : ByteArray} (hz : strB s = z) :
    Calls Try.prog 63 #[.map (some b), .agg #[.int .i64 3, .string z, .int .i64 (m : Int)]] w fun e w' => e = .returned (.bool (decide (pK (s, m) ∉ l))) ∧ CM w' b (n + 1) (pK (s, m) :: l) ∧ Out (fun q => q = b) w w' := by
  subst hz
  exact k_enter w b n _ (pK (s, m)) h hn hl (pK_fit hs hm) rfl

set_option maxRecDepth 100000 in
set_option maxHeartbeats 4000000 in
theorem k_hasName {S : Nat → Prop} (k p n : Int) (s : By) (kids : List Ex) (alts : List Al) (v : Value) (w : World) (b nb : Nat) (cs : List (By × Nat)) (bd : List By) (h : SC w b nb cs bd) (hs : s.length ≤ 1000000) (hl : bd.length + 2 * cs.length ≤ 90000000) (hv : IsV S w (exC (.mk k p s n kids alts)) v) {r : Bool} (hr : nameOk cs bd k s = r) :
    Calls Try.prog 107 #[.map (some b), v] w fun e w' => e = .returned (.bool r) ∧ Below w.heap.size w w' := by
  obtain ⟨a, c, a', c', rfl, _, _⟩ := hv.ex
  obtain ⟨z, hz⟩ : ∃ z, strB s = z := ⟨_, rfl⟩
  obtain ⟨m1, hm1⟩ : ∃ m, kids.length = m := ⟨_, rfl⟩
  obtain ⟨m2, hm2⟩ : ∃ m, alts.length = m := ⟨_, rfl⟩
  rw [hm1, hm2, hz]
  have hb0 : Below w.heap.size w (w.alloc (.cells #[.int .i64 k, .int .i64 p, .string z, .int .i64 n, .slice a m1 c, .slice a' m2 c'] 43)) := (Below.refl _ w).alloc (Nat.le_refl _) _
  have HB0 := Lib.hid hb0
  have HV := Lib.hid (fun (w' : World) (hw : Below w.heap.size w w') => (h.below hw).hasV hs hl hz)
  have HC := Lib.hid (fun (w' : World) (hw : Below w.heap.size w w') => (h.below hw).hasC hs hl hz)
  have HBX := Lib.hid (Box.new w 43 [.int .i64 k, .int .i64 p, .string z, .int .i64 n, .slice a m1 c, .slice a' m2 c'])
  unfold nameOk at hr
  clear hv hz hm1 hm2 h hb0
  by_cases hk1 : k = 1
  · subst hk1
    rw [if_pos rfl] at hr
    rw [hr] at HV
    clear hr
    go_enter Try.func107, Try.ntmps107
    go_wp2_with (first
      | (go_at_call 64; refine (k_svar _ _).mono ?_; rintro e w1 ⟨rfl, hb1⟩; have HB1 := Lib.hid (HB0.out.trans (hb1.mono HB0.out.size)); clear hb1)
      | (go_at_call 139; refine (HV.out _ HB1.out).mono ?_; rintro e w2 ⟨rfl, hb2⟩; have HB2 := Lib.hid (HB1.out.trans (hb2.mono HB1.out.size)); clear hb2))
    go_ret
    exact ⟨rfl, HB2.out⟩
  · have e1 : (k == 1) = false := beq_false_of_ne hk1
    rw [if_neg hk1] at hr
    by_cases hk2 : k = 2
    · subst hk2
      rw [if_pos rfl] at hr
      rw [hr] at HC
      clear hr
      go_enter Try.func107, Try.ntmps107
      go_wp2_with (first
        | (go_at_call 105; refine (k_conK _ _).mono ?_; rintro e w1 ⟨rfl, hb1⟩; have HB1 := Lib.hid (HB0.out.trans (hb1.mono HB0.out.size)); clear hb1)
        | (go_at_call 139; refine (HC.out _ HB1.out).mono ?_; rintro e w2 ⟨rfl, hb2⟩; have HB2 := Lib.hid (HB1.out.trans (hb2.mono HB1.out.size)); clear hb2))
      go_ret
      exact ⟨rfl, HB2.out⟩
    · have e2 : (k == 2) = false := beq_false_of_ne hk2
      rw [if_neg hk2] at hr
      subst hr
      go_enter Try.func107, Try.ntmps107
      go_wp2_with fail
      go_ret
      exact ⟨rfl, HB0.out⟩

set_option maxRecDepth 100000 in
set_option maxHeartbeats 4000000 in
theorem k_boundIn {S : Nat → Prop} (k p n : Int) (s : By) (kids : List Ex) (alts : List Al) (v : Value) (w : World) (i : Nat) (hv : IsV S w (exC (.mk k p s n kids alts)) v) {L : List By} (hL : bindsIn k s i = L) :
    Calls Try.prog 109 #[v, .int .i64 (i : Int)] w fun e w' => ∃ a c, e = .returned (.slice a L.length c) ∧ InC (New w) w' (.s L.length 1 (strsC L)) (.slice a L.length c) ∧ Below w.heap.size w w' := by
  obtain ⟨a, c, a', c', rfl, _, _⟩ := hv.ex
  obtain ⟨z, hz⟩ : ∃ z, strB s = z := ⟨_, rfl⟩
  obtain ⟨m1, hm1⟩ : ∃ m, kids.length = m := ⟨_, rfl⟩
  obtain ⟨m2, hm2⟩ : ∃ m, alts.length = m := ⟨_, rfl⟩
  rw [hm1, hm2, hz]
  have hb0 : Below w.heap.size w (w.alloc (.cells #[.int .i64 k, .int .i64 p, .string z, .int .i64 n, .slice a m1 c, .slice a' m2 c'] 43)) := (Below.refl _ w).alloc (Nat.le_refl _) _
  have HB0 := Lib.hid hb0
  have HZ := Lib.hid hz
  clear hv hz hm1 hm2
  by_cases hc : (k = 6 ∧ i = 0) ∨ (k = 7 ∧ i = 1)
  · have hL1 : L = [s] := by rw [← hL]; unfold bindsIn; rw [if_pos hc]
    subst hL1
    have HF : Hid (Below w.heap.size w ((w.alloc (.cells #[.int .i64 k, .int .i64 p, .string z, .int .i64 n, .slice a m1 c, .slice a' m2 c'] 43)).alloc (.cells #[.string z] 9)) ∧ InC (New w) ((w.alloc (.cells #[.int .i64 k, .int .i64 p, .string z, .int .i64 n, .slice a m1 c, .slice a' m2 c'] 43)).alloc (.cells #[.string z] 9)) (.s ([s] : List By).length 1 (strsC [s])) (.slice (some ⟨w.heap.size + 1, 0, none⟩) 1 1)) := by
      refine ⟨HB0.out.alloc HB0.out.size _, ?_⟩
      have h1 : InS (New w) (w.alloc (.cells #[.int .i64 k, .int .i64 p, .string z, .int .i64 n, .slice a m1 c, .slice a' m2 c'] 43)) (strsC [s]) [.string z] := by
        rw [← HZ.out]; exact InS.cons (.v _) InS.nil
      have h2 := InC.of_new (n := 1) (k := 1) (t := 9) h1 (by unfold New; simp) rfl (by decide)
      rw [World.size_alloc] at h2
      exact h2
    clear hL
    rcases hc with ⟨rfl, rfl⟩ | ⟨rfl, rfl⟩
    · go_enter Try.func109, Try.ntmps109
      go_wp2_with fail
      go_ret
      exact ⟨_, _, rfl, HF.out.2, HF.out.1⟩
    · go_enter Try.func109, Try.ntmps109
      go_wp2_with fail
      go_ret
      exact ⟨_, _, rfl, HF.out.2, HF.out.1⟩
  · have hL1 : L = [] := by rw [← hL]; unfold bindsIn; rw [if_neg hc]
    subst hL1
    clear hL
    obtain ⟨ii, hii⟩ : ∃ ii : Int, (i : Int) = ii := ⟨_, rfl⟩
    have e6 : (k == 6) = true → (ii == 0) = false := fun h => beq_false_of_ne (fun q => hc (.inl ⟨by simpa using h, by omega⟩))
    have e7 : (k == 7) = true → (ii == 1) = false := fun h => beq_false_of_ne (fun q => hc (.inr ⟨by simpa using h, by omega⟩))
    rw [hii]
    clear hc hii
    by_cases h6 : k = 6
    · subst h6
      have e0 : (ii == 0) = false := e6 rfl
      clear e6 e7
      go_enter Try.func109, Try.ntmps109
      go_wp2_with fail
      go_ret
      exact ⟨_, _, rfl, .e _ _ _, HB0.out⟩
    · have e0 : (k == 6) = false := beq_false_of_ne h6
      by_cases h7 : k = 7
      · subst h7
        have e1 : (ii == 1) = false := e7 rfl
        clear e6 e7 e0
        go_enter Try.func109, Try.ntmps109
        go_wp2_with fail
        go_ret
        exact ⟨_, _, rfl, .e _ _ _, HB0.out⟩
      · have e1 : (k == 7) = false := beq_false_of_ne h7
        clear e6 e7
        go_enter Try.func109, Try.ntmps109
        go_wp2_with fail
        go_ret
        exact ⟨_, _, rfl, .e _ _ _, HB0.out⟩

set_option maxRecDepth 100000 in
set_option maxHeartbeats 4000000 in
theorem k_newNames {S : Nat → Prop} (w : World) (vs : List By) (a : Option Addr) (m cap : Nat) (hm : vs.length = m) (hl : m ≤ 1000000) (hlen : ∀ s ∈ vs, s.length ≤ 1000000) (hN : InC S w (.s vs.length 1 (strsC vs)) (.slice a m cap)) {r : Bool} (hr : decide vs.Nodup = r) :
    Calls Try.prog 141 #[.slice a m cap] w fun e w' => e = .returned (.bool r) ∧ Below w.heap.size w w' := by
  have hmm := @run_makeMap Try.prog
  have HN := Lib.hid hN
  have HM := Lib.hid hm
  have HLN := Lib.hid hlen
  have HR := Lib.hid hr
  clear hN hm hlen hr
  go_enter Try.func141, Try.ntmps141
  go_wp2_with fail
  go_loopw [9] (fun i wr => ∃ (k : Nat), k ≤ m ∧ i = .int .i64 (k : Int) ∧ Hid (SC wr w.heap.size k [] (vs.take k).reverse) ∧ Hid ((vs.take k).Nodup) ∧ Hid (Below w.heap.size w wr)) (fun i _ => m - (intOf i).toNat)
  case atStart => exact ⟨0, Nat.zero_le _, rfl, Lib.hid (CM.made w), Lib.hid (by simp), (Below.refl _ _).alloc (Nat.le_refl _) _⟩
  case round =>
    obtain ⟨k, hk, rfl, HMP, HND, HB⟩ := hrel
    by_cases hlt : k < m
    · obtain ⟨v, hv⟩ : ∃ v, vs[k]? = some v := ⟨_, List.getElem?_eq_getElem (by rw [HM.out]; exact hlt)⟩
      have hvl := HLN.out v (List.mem_of_getElem? hv)
      obtain ⟨b, off, rfl, hb, hcx⟩ := HN.out.text hv
      replace hcx := (HB.out.cell (p := ⟨b, off + k, none⟩) hb).trans hcx
      have htk : vs.take (k + 1) = vs.take k ++ [v] := by rw [List.take_add_one, hv]; rfl
      have htl : (vs.take k).reverse.length + 2 * ([] : List (By × Nat)).length ≤ 90000000 := by simp [List.length_take]; omega
      have hbr : b < wr.heap.size := by have := HB.out.size; omega
      have HTK : Hid ((vs.take (k + 1)).reverse = v :: (vs.take k).reverse) := by show _ = _; rw [htk]; simp
      have HTT := Lib.hid htk
      obtain ⟨z, hz⟩ : ∃ z, strB v = z := ⟨_, rfl⟩
      rw [hz] at hcx
      have HE := Lib.hid (fun (w' : World) (hw : Below wr.heap.size wr w') => (HMP.out.below hw).enterV hvl (by omega) htl hz)
      have hmem : v ∈ (vs.take k).reverse ↔ v ∈ vs.take k := List.mem_reverse
      cases hin : decide (v ∉ vs.take k) with
      | true =>
        have hni : v ∉ vs.take k := of_decide_eq_true hin
        rw [show decide (v ∉ (vs.take k).reverse) = true from decide_eq_true (fun q => hni (hmem.1 q))] at HE
        have HND2 := Lib.hid (nodup_snoc HND.out hni)
        clear htk htl hv hvl hin hni hmem hz
        go_wp2_with (first
          | (go_at_call 64; refine (k_svar _ _).mono ?_; rintro e w1 ⟨rfl, hb1⟩; have HB1 := Lib.hid hb1; clear hb1)
          | (go_at_call 63; refine (HE.out _ HB1.out).mono ?_; rintro e w9 ⟨rfl, hnm, ho⟩; have HNM := Lib.hid hnm; have HO := Lib.hid ho; clear hnm ho))
        have HBZ : Hid (Below w.heap.size w w9) := (HB.out.trans (HB1.out.mono HB.out.size)).trans (HO.out.below (Nat.le_trans HB.out.size HB1.out.size) (fun q hq => by show ¬ (q = w.heap.size); omega))
        go_roundw
        case rel => exact ⟨k + 1, by omega, by go_num, by rw [HTK.out]; exact HNM, by rw [HTT.out]; exact HND2, HBZ⟩
        case measure => simp [intOf]; omega
      | false =>
        have hni : v ∈ vs.take k := Decidable.not_not.1 (of_decide_eq_false hin)
        rw [show decide (v ∉ (vs.take k).reverse) = false from decide_eq_false (fun q => q (hmem.2 hni))] at HE
        have hrf : r = false := by rw [← HR.out]; exact decide_eq_false (nodup_not hv hni)
        subst hrf
        clear htk htl hv hvl hin hni hmem hz
        go_wp2_with (first
          | (go_at_call 64; refine (k_svar _ _).mono ?_; rintro e w1 ⟨rfl, hb1⟩; have HB1 := Lib.hid hb1; clear hb1)
          | (go_at_call 63; refine (HE.out _ HB1.out).mono ?_; rintro e w9 ⟨rfl, hnm, ho⟩; have HO := Lib.hid ho; clear hnm ho))
        go_ret
        exact ⟨rfl, (HB.out.trans (HB1.out.mono HB.out.size)).trans (HO.out.below (Nat.le_trans HB.out.size HB1.out.size) (fun q hq => by show ¬ (q = w.heap.size); omega))⟩
    · have hkm : k = m := by omega
      subst hkm
      have hrt : r = true := by
        rw [← HR.out]
        have := HND.out
        rw [List.take_of_length_le (by rw [HM.out]; exact Nat.le_refl _)] at this
        exact decide_eq_true this
      subst hrt
      go_wp2_with fail
      go_ret
      exact ⟨rfl, HB.out⟩

end Go.Proofs.Ytjfogodfpmfhhaa

namespace Go.Proofs.Ytjfogodfpmfhhaa
open Go.RowKit Go.Maps
set_option linter.unusedVariables false
set_option linter.unusedSimpArgs false

def atI (r : Option Int) : Int := r.getD 0
/-- What wrongIn tells of an expression, whatever is bound. -/
def WX (x : Ex) : Prop := ∀ (b n : Nat) (cs : List (By × Nat)) (bd : List By) (S : Nat → Prop) (v : Value) (w : World), x.fit → SC w b n cs bd → IsV S w (exC x) v → (∀ q, q < w.heap.size → S q → q ≠ b) → n + 2 * x.nn ≤ 8000000 → bd.length + x.nn + 2 * cs.length ≤ 8000000 →
  Calls Try.prog 65 #[.map (some b), v] w fun e w' => ∃ n', e = .returned (.tuple #[.int .i64 (atI (x.wr cs bd)), .bool (x.wr cs bd).isSome]) ∧ n' ≤ n + 2 * x.nn ∧ SC w' b n' cs bd ∧ Out (fun q => q = b) w w'
theorem InC.keep {S : Nat → Prop} {w w' : World} {b : Nat} {c : Cl} {u : Value} (h : InC S w c u) (ho : Out (fun q => q = b) w w') (hs : ∀ q, q < w.heap.size → S q → q ≠ b) : InC S w' c u := h.out ho hs
theorem IsV.keep {S : Nat → Prop} {w w' : World} {b : Nat} {cs : List Cl} {u : Value} (h : IsV S w cs u) (ho : Out (fun q => q = b) w w') (hs : ∀ q, q < w.heap.size → S q → q ≠ b) : IsV S w' cs u := h.out ho hs

set_option maxRecDepth 100000 in
set_option maxHeartbeats 8000000 in
theorem k_within (x : Ex) (hX : WX x) (b n : Nat) (cs : List (By × Nat)) (bd L : List By) (S S' : Nat → Prop) (v : Value) (a : Option Addr) (m c : Nat) (w : World) (hf : x.fit) (hL : ∀ s ∈ L, s.length ≤ 1000000) (hm : L.length = m) (hs0 : SC w b n cs bd) (hN0 : InC S' w (.s L.length 1 (strsC L)) (.slice a m c)) (hv0 : IsV S w (exC x) v)
    (hq0 : ∀ q, q < w.heap.size → S q → q ≠ b) (hq0' : ∀ q, q < w.heap.size → S' q → q ≠ b) (h1 : n + 2 * (L.length + x.nn) ≤ 8000000) (h2 : bd.length + (L.length + x.nn) + 2 * cs.length ≤ 8000000) :
    Calls Try.prog 108 #[.map (some b), .slice a m c, v] w fun e w' => ∃ n', e = .returned (.tuple #[.int .i64 (atI (x.wr cs (L ++ bd))), .bool (x.wr cs (L ++ bd)).isSome]) ∧ n' ≤ n + 2 * (L.length + x.nn) ∧ SC w' b n' cs bd ∧ Out (fun q => q = b) w w' := by
  obtain ⟨R, hR⟩ : ∃ R, x.wr cs (L ++ bd) = R := ⟨_, rfl⟩
  have hR2 : x.wr cs (L.reverse ++ bd) = R := by
    rw [← hR]
    exact Ex.wr_eq (fun _ => Iff.rfl) x (fun s => by simp [List.mem_append])
  have hbl := hs0.lt
  -- in blocks that are not b, below the world
  have hv : IsV (fun q => q ≠ b ∧ q < w.heap.size) w (exC x) v := hv0.mono fun q h1 h2 => ⟨hq0 q h1 h2, h1⟩
  have hN : InC (fun q => q ≠ b ∧ q < w.heap.size) w (.s L.length 1 (strsC L)) (.slice a m c) := hN0.mono fun q h1 h2 => ⟨hq0' q h1 h2, h1⟩
  obtain ⟨k1, k2, k3, k4, k5, k6, k7, k8, k9, k10, hk, _⟩ := hv.exs
  subst hk
  obtain ⟨z, hz⟩ : ∃ z, strB k4 = z := ⟨_, rfl⟩
  rw [hz] at hv ⊢
  rw [hR]
  obtain ⟨rb, hrb⟩ : ∃ rb, R.isSome = rb := ⟨_, rfl⟩
  obtain ⟨ra, hra⟩ : ∃ ra, atI R = ra := ⟨_, rfl⟩
  rw [hrb, hra]
  have HB0 := Lib.hid (Box.new w 43 [.int .i64 k1, .int .i64 k2, .string z, .int .i64 k3, .slice k5 k7 k9, .slice k6 k8 k10])
  have HO0 : Hid (Out (fun q => q = b) w (w.alloc (.cells #[.int .i64 k1, .int .i64 k2, .string z, .int .i64 k3, .slice k5 k7 k9, .slice k6 k8 k10] 43))) := (Out.refl _ w).alloc _
  have HS0 : Hid (SC (w.alloc (.cells #[.int .i64 k1, .int .i64 k2, .string z, .int .i64 k3, .slice k5 k7 k9, .slice k6 k8 k10] 43)) b (n + 0) cs ((L.take 0).reverse ++ bd)) := by
    show SC _ b n cs bd
    exact hs0.below ((Below.refl _ w).alloc (Nat.le_refl _) _)
  have HV := Lib.hid hv
  have HN := Lib.hid hN
  have HM := Lib.hid hm
  have HL := Lib.hid hL
  have HX := Lib.hid hX
  have HF := Lib.hid hf
  have HR2 := Lib.hid hR2
  have HRB := Lib.hid hrb
  have HRA := Lib.hid hra
  have hm1 : m + x.nn ≤ 4000000 := by omega
  have hnm : n + 2 * (m + x.nn) ≤ 8000000 := by omega
  have hbm : bd.length + (m + x.nn) + 2 * cs.length ≤ 8000000 := by omega
  have HBM := Lib.hid hbm
  clear hs0 hN0 hv0 hq0 hq0' hv hN hm hL hX hf hR hR2 hrb hra hz h1 h2 hbm
  go_enter Try.func108, Try.ntmps108
  go_wp2_with fail
  obtain ⟨W0, hW0⟩ : ∃ W0, w.alloc (.cells #[.int .i64 k1, .int .i64 k2, .string z, .int .i64 k3, .slice k5 k7 k9, .slice k6 k8 k10] 43) = W0 := ⟨_, rfl⟩
  rw [show (w.alloc (.cells ([.int .i64 k1, .int .i64 k2, .string z, .int .i64 k3, .slice k5 k7 k9, .slice k6 k8 k10] : List Value).toArray 43)) = W0 from hW0] at HB0
  rw [hW0] at HO0 HS0
  try rw [hW0]
  clear hW0
  go_loopw [14] (fun iv wr => ∃ k : Nat, k ≤ m ∧ iv = .int .i64 (k : Int) ∧ Hid (SC wr b (n + k) cs ((L.take k).reverse ++ bd)) ∧ Hid (Out (fun q => q = b) w wr) ∧ Hid (Box wr w.heap.size 43 [.int .i64 k1, .int .i64 k2, .string z, .int .i64 k3, .slice k5 k7 k9, .slice k6 k8 k10])) (fun iv _ => m - (intOf iv).toNat)
  case atStart => exact ⟨0, Nat.zero_le _, rfl, HS0, HO0, HB0⟩
  case round =>
    clear HS0 HO0 HB0
    obtain ⟨k, hk, rfl, HS, HO, HB⟩ := hrel
    by_cases hlt : k < m
    · obtain ⟨s, hs⟩ : ∃ s, L[k]? = some s := ⟨_, List.getElem?_eq_getElem (by rw [HM.out]; exact hlt)⟩
      have hsl := HL.out s (List.mem_of_getElem? hs)
      obtain ⟨g, off, rfl, hg, hcx⟩ := (HN.out.keep HO.out (fun q _ h => h.1)).text hs
      have HTK : Hid ((L.take (k + 1)).reverse ++ bd = s :: ((L.take k).reverse ++ bd)) := by show _ = _; rw [List.take_add_one, hs]; simp
      obtain ⟨zs, hzs⟩ : ∃ zs, strB s = zs := ⟨_, rfl⟩
      rw [hzs] at hcx
      have hln : ((L.take k).reverse ++ bd).length + 2 * cs.length ≤ 90000000 := by simp [List.length_take]; have := HBM.out; omega
      have HE := Lib.hid (fun (w' : World) (hw : Below wr.heap.size wr w') => (HS.out.below hw).enterV hsl (by omega) hln hzs)
      clear hs hsl hzs hln
      go_wp2_with (first
        | (go_at_call 64; refine (k_svar _ _).mono ?_; rintro e w1 ⟨rfl, hb1⟩; have HB1 := Lib.hid hb1; clear hb1)
        | (go_at_call 63; refine (HE.out _ HB1.out).mono ?_; rintro e w9 ⟨rfl, hnm, ho⟩; have HNM := Lib.hid hnm; have HO9 := Lib.hid ((Out.of_below HB1.out).trans ho); clear hnm ho))
      have hbxl := HB.out.lt
      have hobl := HO.out.size
      go_roundw
      case rel => exact ⟨k + 1, by omega, by go_num, by rw [HTK.out]; exact HNM, HO.out.trans HO9.out, HO9.out.box HB.out (by show ¬ (_ = b); omega)⟩
      case measure => simp [intOf]; omega
    · have hkm : k = m := by omega
      subst hkm
      have hS1 : SC wr b (n + k) cs (L.reverse ++ bd) := by
        have := HS.out
        rwa [List.take_of_length_le (by rw [HM.out]; exact Nat.le_refl _)] at this
      have hXX := HX.out b (n + k) cs (L.reverse ++ bd) (fun q => q ≠ b ∧ q < w.heap.size) _ wr HF.out hS1 (HV.out.keep HO.out (fun q _ h => h.1)) (fun q _ h => h.1) (by omega) (by rw [List.length_append, List.length_reverse, HM.out]; have := HBM.out; omega)
      rw [HR2.out, HRB.out, HRA.out] at hXX
      have HXX := Lib.hid hXX
      obtain ⟨_, _, _, _, _, _⟩ := six_cells HB.out
      have hbxl := HB.out.lt
      clear hXX hS1 HX HV HS hlt
      go_wp2_with (go_at_call 65; refine (HXX.out).mono ?_; rintro e w1 ⟨n1, rfl, hn1, hs1, ho1⟩; have HS1 := Lib.hid hs1; have HO1 := Lib.hid (HO.out.trans ho1); clear hs1 ho1 HO HB)
      have HS2 : Hid (SC w1 b (n1 + 0) cs (L.drop 0 ++ bd)) := HS1.out.perm (by rw [List.drop_zero]; exact (List.reverse_perm L).append_right bd)
      clear HS1
      go_loopw [31] (fun iv wr => ∃ j : Nat, j ≤ k ∧ iv = .int .i64 (j : Int) ∧ Hid (SC wr b (n1 + j) cs (L.drop j ++ bd)) ∧ Hid (Out (fun q => q = b) w wr)) (fun iv _ => k - (intOf iv).toNat)
      case atStart => exact ⟨0, Nat.zero_le _, rfl, HS2, HO1⟩
      case round =>
        rename World => wr
        clear HS2 HO1
        obtain ⟨j, hj, rfl, HS, HO⟩ := hrel
        by_cases hlt : j < k
        · obtain ⟨s, hs⟩ : ∃ s, L[j]? = some s := ⟨_, List.getElem?_eq_getElem (by rw [HM.out]; exact hlt)⟩
          have hsl := HL.out s (List.mem_of_getElem? hs)
          obtain ⟨g, off, rfl, hg, hcx⟩ := (HN.out.keep HO.out (fun q _ h => h.1)).text hs
          have hdr : L.drop j ++ bd = s :: (L.drop (j + 1) ++ bd) := by rw [drop_cons hs]; rfl
          rw [hdr] at HS
          obtain ⟨zs, hzs⟩ : ∃ zs, strB s = zs := ⟨_, rfl⟩
          rw [hzs] at hcx
          have hln : (L.drop (j + 1) ++ bd).length + 2 * cs.length ≤ 90000000 := by simp [List.length_drop]; have := HBM.out; have := HM.out; omega
          have HE := Lib.hid (fun (w' : World) (hw : Below wr.heap.size wr w') => SC.leaveV (HS.out.below hw) hsl (by omega) hln hzs)
          clear hs hsl hzs hln hdr
          go_wp2_with (first
            | (go_at_call 64; refine (k_svar _ _).mono ?_; rintro e w2 ⟨rfl, hb1⟩; have HB1 := Lib.hid hb1; clear hb1)
            | (go_at_call 140; refine (HE.out _ HB1.out).mono ?_; rintro e w9 ⟨rfl, hnm, ho⟩; have HNM := Lib.hid hnm; have HO9 := Lib.hid (HO.out.trans ((Out.of_below HB1.out).trans ho)); clear hnm ho))
          go_roundw
          case rel => exact ⟨j + 1, by omega, by go_num, HNM, HO9⟩
          case measure => simp [intOf]; omega
        · have hjk : j = k := by omega
          have HSE : Hid (SC wr b (n1 + k) cs bd) := by
            have := HS.out
            rw [hjk, List.drop_of_length_le (by rw [HM.out]; exact Nat.le_refl _)] at this
            exact this
          clear hjk HS
          go_wp2_with fail
          refine bodyPost_ret (v := .tuple #[.int .i64 ra, .bool rb]) (by simp only [results, Try.results108]; go_simp <;> rfl) rfl ?_
          exact ⟨n1 + k, rfl, by have := HM.out; omega, HSE.out, HO.out⟩

end Go.Proofs.Ytjfogodfpmfhhaa

namespace Go.Proofs.Ytjfogodfpmfhhaa
open Go.RowKit Go.Maps
set_option linter.unusedVariables false
set_option linter.unusedSimpArgs false

/-- An alternative whose parts are known. -/
theorem IsV.al4 {S : Nat → Prop} {w : World} {v : Value} {p : Int} {s : By} {names : List By} {b : Ex} (h : IsV S w (alC (.mk p s names b)) v) : ∃ (k q n : Int) (s2 : By) (a1 a a' : Option Addr) (c1 m m' cp cp' : Nat), v = .agg #[.int .i64 p, .string (strB s), .slice a1 names.length c1, .int .i64 k, .int .i64 q, .string (strB s2), .int .i64 n, .slice a m cp, .slice a' m' cp'] ∧ InC S w (.s names.length 1 (strsC names)) (.slice a1 names.length c1) ∧ IsV S w (exC b) (.agg #[.int .i64 k, .int .i64 q, .string (strB s2), .int .i64 n, .slice a m cp, .slice a' m' cp']) := by
  obtain ⟨us, rfl, h⟩ := h
  unfold alC at h
  obtain ⟨u0, r0, rfl, l0⟩ := three_cons (n := (exC b).length + 2) (by simpa using h.1)
  obtain ⟨u1, r1, rfl, l1⟩ := three_cons (n := (exC b).length + 1) l0
  obtain ⟨u2, r2, rfl, l2⟩ := three_cons (n := (exC b).length) l1
  obtain rfl := h.head.val
  obtain rfl := h.tail.head.val
  obtain ⟨a1, c1, rfl, _, _⟩ := h.tail.tail.head.slice
  have h2 : IsV S w (exC b) (.agg r2.toArray) := ⟨r2, rfl, h.tail.tail.tail⟩
  obtain ⟨k, q, n, s2, a2, a3, m2, m3, c2, c3, hv, _⟩ := h2.exs
  obtain rfl := agg_inj hv
  exact ⟨k, q, n, s2, a1, a2, a3, c1, m2, m3, c2, c3, rfl, h.tail.tail.head, h2⟩
theorem nine_all {w : World} {b : Nat} {t : TypeId} {c0 c1 c2 c3 c4 c5 c6 c7 c8 : Value} (h : Box w b t [c0, c1, c2, c3, c4, c5, c6, c7, c8]) : w.cell? ⟨b, 0, none⟩ = some c0 ∧ w.cell? ⟨b, 1, none⟩ = some c1 ∧ w.cell? ⟨b, 2, none⟩ = some c2 ∧ w.cell? ⟨b, 3, none⟩ = some c3 ∧ w.cell? ⟨b, 4, none⟩ = some c4 ∧ w.cell? ⟨b, 5, none⟩ = some c5 ∧ w.cell? ⟨b, 6, none⟩ = some c6 ∧ w.cell? ⟨b, 7, none⟩ = some c7 ∧ w.cell? ⟨b, 8, none⟩ = some c8 := ⟨h.cell 0, h.cell 1, h.cell 2, h.cell 3, h.cell 4, h.cell 5, h.cell 6, h.cell 7, h.cell 8⟩
theorem Out.into {S S' : Nat → Prop} {w w' w'' : World} (h : Out S w w') (k : Out S' w' w'') (hs : ∀ q, q < w.heap.size → S' q → S q) : Out S w w'' := ⟨k.os.trans h.os, k.tape.trans h.tape, k.output.trans h.output, Nat.le_trans h.size k.size, fun i hi hn => (k.block i (Nat.lt_of_lt_of_le hi h.size) (fun q => hn (hs i hi q))).trans (h.block i hi hn)⟩
theorem Al.nns_len : ∀ l : List Al, l.length ≤ Al.nns l
  | [] => Nat.zero_le _
  | .mk p s names b :: r => by have := Al.nns_len r; simp only [List.length_cons, Al.nns, Al.nn]; omega
theorem cK_mem {s : By} {l : List By} : cK s ∈ l.map cK ↔ s ∈ l := by
  simp only [List.mem_map, cK, BK.mk.injEq, true_and, and_true, exists_eq_right]

set_option maxRecDepth 100000 in
set_option maxHeartbeats 16000000 in
theorem k_among (l : List Al) (hX : ∀ p s names x, Al.mk p s names x ∈ l → WX x) (b n : Nat) (cs : List (By × Nat)) (bd : List By) (S : Nat → Prop) (a : Option Addr) (m c : Nat) (w : World) (hf : Al.fits l) (hs0 : SC w b n cs bd) (hN0 : InC S w (.s l.length 9 (alsC l)) (.slice a m c))
    (hq0 : ∀ q, q < w.heap.size → S q → q ≠ b) (h1 : n + 2 * Al.nns l ≤ 8000000) (h2 : bd.length + Al.nns l + 2 * cs.length ≤ 8000000) :
    Calls Try.prog 110 #[.map (some b), .slice a m c] w fun e w' => ∃ n', e = .returned (.tuple #[.int .i64 (atI (Al.wrs cs bd [] l)), .bool (Al.wrs cs bd [] l).isSome]) ∧ n' ≤ n + 2 * Al.nns l ∧ SC w' b n' cs bd ∧ Out (fun q => q = b) w w' := by
  have hmm := @run_makeMap Try.prog
  obtain ⟨R, hR⟩ : ∃ R, Al.wrs cs bd [] l = R := ⟨_, rfl⟩
  have hbl := hs0.lt
  have hN : InC (fun q => q ≠ b ∧ q < w.heap.size) w (.s l.length 9 (alsC l)) (.slice a m c) := hN0.mono fun q h1 h2 => ⟨hq0 q h1 h2, h1⟩
  have hLm := hN.max_len
  have e2 := hN.at_.1
  rw [← e2] at hLm
  rw [alsC_eq] at hN
  rw [hR]
  obtain ⟨rb, hrb⟩ : ∃ rb, R.isSome = rb := ⟨_, rfl⟩
  obtain ⟨ra, hra⟩ : ∃ ra, atI R = ra := ⟨_, rfl⟩
  rw [hrb, hra]
  have hm8 : m ≤ 4000000 := by have := Al.nns_len l; omega
  obtain ⟨TN, hTN⟩ : ∃ TN, n + 2 * Al.nns l = TN := ⟨_, rfl⟩
  rw [hTN] at h1 ⊢
  have HS0 : Hid (SC (w.alloc (.map #[] 0)) b n cs bd) := hs0.below ((Below.refl _ w).alloc (Nat.le_refl _) _)
  have HO0 : Hid (Out (fun q => q = b) w (w.alloc (.map #[] 0))) := (Out.refl _ w).alloc _
  have HC0 : Hid (CM (w.alloc (.map #[] 0)) w.heap.size 0 (([] : List By).map cK)) := CM.made w
  have HN := Lib.hid hN
  have HM : Hid (l.length = m) := e2.symm
  have HX := Lib.hid hX
  have HF := Lib.hid ((Al.fits_iff l).1 hf)
  have HR0 : Hid (Al.wrs cs bd [] (l.drop 0) = R) := by show _ = _; simpa using hR
  have HRB := Lib.hid hrb
  have HRA := Lib.hid hra
  have HT0 : Hid (n + 2 * Al.nns (l.drop 0) ≤ TN) := by show _ ≤ _; simpa using Nat.le_of_eq hTN
  have HBD := Lib.hid h2
  clear hs0 hN0 hq0 hN e2 hX hf hR hrb hra hTN h2
  go_enter Try.func110, Try.ntmps110
  go_wp2_with fail
  go_loopw [14] (fun iv wr => ∃ (k nk : Nat) (seen : List By), k ≤ m ∧ iv = .int .i64 (k : Int) ∧ seen.length = k ∧ Hid (Al.wrs cs bd seen (l.drop k) = R) ∧ Hid (nk + 2 * Al.nns (l.drop k) ≤ TN) ∧ Hid (SC wr b nk cs bd) ∧ Hid (CM wr w.heap.size k (seen.map cK)) ∧ Hid (Out (fun q => q = b) w wr)) (fun iv _ => m - (intOf iv).toNat)
  case atStart => exact ⟨0, n, [], Nat.zero_le _, rfl, rfl, HR0, HT0, HS0, HC0, HO0⟩
  case round =>
    clear HS0 HO0 HC0 HR0 HT0
    obtain ⟨k, nk, seen, hk, rfl, hsl, HR, HT, HS, HC, HO⟩ := hrel
    obtain ⟨wo, rfl⟩ : ∃ wo, wo = wr := ⟨wr, rfl⟩
    by_cases hlt : k < m
    · obtain ⟨x, hx⟩ : ∃ x, l[k]? = some x := ⟨_, List.getElem?_eq_getElem (by rw [HM.out]; exact hlt)⟩
      have hxm := List.mem_of_getElem? hx
      have hnx := Al.nns_mem hxm
      have hnd := Al.nns_drop hx
      have hfx := HF.out x hxm
      have hNw := HN.out.keep HO.out (fun q _ h => h.1)
      obtain ⟨g, off, us, rfl, hg, hxv, hc⟩ := hNw.elem alC_len hx
      have hdr := drop_cons hx
      obtain ⟨p, s, names, y⟩ := x
      simp only [Al.nn] at hnx hnd
      simp only [Al.fit] at hfx
      obtain ⟨hf1, hf2, hf3, hf4⟩ := hfx
      have hWX := HX.out p s names y hxm
      obtain ⟨z0, z1, z2, z3, a1, a2, a3, c1, m2, m3, c2, c3, hz9, hnv, hyv⟩ := hxv.al4
      obtain rfl := agg_inj hz9
      have hcc : ∀ (j : Nat) (u : Value), ([.int .i64 p, .string (strB s), .slice a1 names.length c1, .int .i64 z0, .int .i64 z1, .string (strB z3), .int .i64 z2, .slice a2 m2 c2, .slice a3 m3 c3] : List Value)[j]? = some u → wo.cell? ⟨g, off + (k * 9 + j), none⟩ = some u := fun j u hu => hc j u hu
      have q0 := hcc 0 _ rfl
      have q1 := hcc 1 _ rfl
      have q2 := hcc 2 _ rfl
      have q3 := hcc 3 _ rfl
      have q4 := hcc 4 _ rfl
      have q5 := hcc 5 _ rfl
      have q6 := hcc 6 _ rfl
      have q7 := hcc 7 _ rfl
      have q8 := hcc 8 _ rfl
      rw [← Nat.add_assoc] at q0 q1 q2 q3 q4 q5 q6 q7 q8
      rw [Nat.add_zero] at q0
      have T1 : ∀ W, Sem.run Try.prog (Instr.indexAt 41 (.slice (some ⟨g, off, none⟩) m c) (.int .i64 (k : Int))) W = .ok (.pointer (some ⟨g, off + k * 9, none⟩)) W := fun W => by go_simp
      have hls : bd.length + 2 * cs.length ≤ 90000000 := by have := HBD.out; omega
      obtain ⟨nl, hnl⟩ : ∃ nl, names.length = nl := ⟨_, rfl⟩
      obtain ⟨zs, hzs⟩ : ∃ zs, strB s = zs := ⟨_, rfl⟩
      obtain ⟨zt, hzt⟩ : ∃ zt, strB z3 = zt := ⟨_, rfl⟩
      -- the test
      obtain ⟨r1, hr1⟩ : ∃ r1, decide ((s, nl) ∈ cs) = r1 := ⟨_, rfl⟩
      obtain ⟨r2, hr2⟩ : ∃ r2, decide (s ∉ seen) = r2 := ⟨_, rfl⟩
      obtain ⟨r3, hr3⟩ : ∃ r3, decide names.Nodup = r3 := ⟨_, rfl⟩
      obtain ⟨y1, hy1⟩ : ∃ y1, y.wr cs (names ++ bd) = y1 := ⟨_, rfl⟩
      have hRR : (if (r1 && r2 && r3) = true then y1.or (Al.wrs cs bd (s :: seen) (l.drop (k + 1))) else some p) = R := by
        rw [← HR.out, hdr]; simp only [Al.wrs]; rw [hnl, hr1, hr2, hr3, hy1]
      have hnl6 : nl ≤ 1000000 := by omega
      have hmw := HC.out.lt
      have HP := Lib.hid (fun (w' : World) (hw : Below wo.heap.size wo w') => (HS.out.below hw).hasP (m := nl) hf1 hnl6 hls hzs)
      have HE := Lib.hid (fun (w' : World) (hw : Below wo.heap.size wo w') => (HC.out.below hw).enterC hf1 (by omega) (by simp; omega) hzs)
      rw [hr1] at HP
      rw [show decide (cK s ∉ seen.map cK) = r2 from (decide_eq_decide.2 (not_congr cK_mem)).trans hr2] at HE
      have hboxn : w.heap.size < wo.heap.size := hmw
      -- blocks of the alternative: not b, and below the first world
      have HNV := Lib.hid hnv
      have HYV := Lib.hid hyv
      have HW : Hid (∀ (w' : World) (nk' : Nat), Out (fun q => q = b ∨ q = w.heap.size) wo w' → SC w' b nk' cs bd → nk' = nk → Calls Try.prog 108 #[.map (some b), .slice a1 nl c1, .agg #[.int .i64 z0, .int .i64 z1, .string zt, .int .i64 z2, .slice a2 m2 c2, .slice a3 m3 c3]] w' fun e w'' => ∃ n', e = .returned (.tuple #[.int .i64 (atI y1), .bool y1.isSome]) ∧ n' ≤ nk + 2 * (nl + y.nn) ∧ SC w'' b n' cs bd ∧ Out (fun q => q = b) w' w'') := fun w' nk' ho hs hn => by
        subst hn
        have hno : ∀ q, q < wo.heap.size → (q ≠ b ∧ q < w.heap.size) → ¬ (q = b ∨ q = w.heap.size) := fun q _ h => by omega
        have := k_within y hWX b nk' cs bd names (fun q => q ≠ b ∧ q < w.heap.size) (fun q => q ≠ b ∧ q < w.heap.size) _ a1 nl c1 w' hf4 hf3 hnl hs (by have := hnv.out ho hno; rwa [hnl] at this ⊢) (by have := hyv.out ho hno; rwa [hzt] at this) (fun q _ h => h.1) (fun q _ h => h.1) (by rw [hnl]; have := HT.out; omega) (by rw [hnl]; have := HBD.out; omega)
        rw [hy1, hnl] at this
        exact this
      have HD := Lib.hid (fun (w' : World) (ho : Out (fun q => q = b ∨ q = w.heap.size) wo w') => k_newNames (S := fun q => q ≠ b ∧ q < w.heap.size) w' names a1 nl c1 hnl hnl6 hf3 (by have h5 := hnv.out ho (fun q _ h => by omega); rwa [hnl] at h5 ⊢) hr3)
      rw [hnl] at HNV q2
      rw [hzs] at q1
      rw [hzt] at HYV q5
      have HRR := Lib.hid hRR
      have HND := Lib.hid hnd
      have HNX := Lib.hid hnx
      have HNL := Lib.hid hnl
      have HBX := Lib.hid (Box.new wo 151 [.int .i64 p, .string zs, .slice a1 nl c1, .int .i64 z0, .int .i64 z1, .string zt, .int .i64 z2, .slice a2 m2 c2, .slice a3 m3 c3])
      have HBa : Hid (Below wo.heap.size wo (wo.alloc (.cells #[.int .i64 p, .string zs, .slice a1 nl c1, .int .i64 z0, .int .i64 z1, .string zt, .int .i64 z2, .slice a2 m2 c2, .slice a3 m3 c3] 151))) := (Below.refl _ wo).alloc (Nat.le_refl _) _
      clear hcc hc hxv hx hxm hnx hnd hdr hWX hnv hyv hf1 hf2 hf3 hf4 hzs hzt hr1 hr2 hr3 hy1 hRR hls hNw hnl
      have hfin : (r1 && r2 && r3) = false → rb = true ∧ ra = p := fun h => by
        have := HRR.out
        rw [h] at this
        have hR3 : R = some p := this.symm
        exact ⟨by rw [← HRB.out, hR3]; rfl, by rw [← HRA.out, hR3]; rfl⟩
      have hnt : nk ≤ TN := by have := HT.out; omega
      cases r1 with
      | false =>
        obtain ⟨rfl, rfl⟩ := hfin rfl
        go_wp2_with (first
          | (go_at_call 106; refine (k_pattern _ _ _).mono ?_; rintro e w1 ⟨rfl, hb1⟩; have HB1 := Lib.hid (HBa.out.trans (hb1.mono HBa.out.size)); have hy := HBX.out.below hb1; obtain ⟨_, _, _, _, _, _, _, _, _⟩ := nine_all hy; have hl1 := hy.lt; have HY1 := Lib.hid hy; clear hb1 hy)
          | (go_at_call 139; refine (HP.out _ HB1.out).mono ?_; rintro e w2 ⟨rfl, hb2⟩; have HB2 := Lib.hid (HB1.out.trans (hb2.mono HB1.out.size)); have hy := HY1.out.below hb2; obtain ⟨_, _, _, _, _, _, _, _, _⟩ := nine_all hy; have hl2 := hy.lt; have HY2 := Lib.hid hy; clear hb2 hy))
        refine bodyPost_ret (v := .tuple #[.int .i64 ra, .bool true]) (by simp only [results, Try.results110]; go_simp <;> rfl) rfl ?_
        exact ⟨nk, rfl, hnt, HS.out.below HB2.out, HO.out.next HB2.out⟩
      | true =>
        cases r2 with
        | false =>
          obtain ⟨rfl, rfl⟩ := hfin rfl
          go_wp2_with (first
            | (go_at_call 106; refine (k_pattern _ _ _).mono ?_; rintro e w1 ⟨rfl, hb1⟩; have HB1 := Lib.hid (HBa.out.trans (hb1.mono HBa.out.size)); have hy := HBX.out.below hb1; obtain ⟨_, _, _, _, _, _, _, _, _⟩ := nine_all hy; have hl1 := hy.lt; have HY1 := Lib.hid hy; clear hb1 hy)
            | (go_at_call 139; refine (HP.out _ HB1.out).mono ?_; rintro e w2 ⟨rfl, hb2⟩; have HB2 := Lib.hid (HB1.out.trans (hb2.mono HB1.out.size)); have hy := HY1.out.below hb2; obtain ⟨_, _, _, _, _, _, _, _, _⟩ := nine_all hy; have hl2 := hy.lt; have HY2 := Lib.hid hy; clear hb2 hy)
            | (go_at_call 105; refine (k_conK _ _).mono ?_; rintro e w3 ⟨rfl, hb3⟩; have HB3 := Lib.hid (HB2.out.trans (hb3.mono HB2.out.size)); have hy := HY2.out.below hb3; obtain ⟨_, _, _, _, _, _, _, _, _⟩ := nine_all hy; have hl3 := hy.lt; have HY3 := Lib.hid hy; clear hb3 hy)
            | (go_at_call 63; refine (HE.out _ HB3.out).mono ?_; rintro e w4 ⟨rfl, hc4, ho4⟩; have hy := ho4.box HY3.out (show ¬ (_ = w.heap.size) by omega); obtain ⟨_, _, _, _, _, _, _, _, _⟩ := nine_all hy; have hl4 := hy.lt; have HY4 := Lib.hid hy; have HC4 := Lib.hid hc4; have HO4 : Hid (Out (fun q => q = b ∨ q = w.heap.size) wo w4) := (Out.of_below HB3.out).trans (ho4.mono (fun q _ h => .inr h)); have HS4 := Lib.hid ((HS.out.below HB3.out).agree (ho4.block b (HS.out.below HB3.out).lt (show ¬ (b = w.heap.size) by omega))); clear hc4 ho4 hy))
          refine bodyPost_ret (v := .tuple #[.int .i64 ra, .bool true]) (by simp only [results, Try.results110]; go_simp <;> rfl) rfl ?_
          exact ⟨nk, rfl, hnt, HS4.out, HO.out.into HO4.out (fun q hq h => h.elim id (fun e => by omega))⟩
        | true =>
          cases r3 with
          | false =>
            obtain ⟨rfl, rfl⟩ := hfin rfl
            go_wp2_with (first
              | (go_at_call 106; refine (k_pattern _ _ _).mono ?_; rintro e w1 ⟨rfl, hb1⟩; have HB1 := Lib.hid (HBa.out.trans (hb1.mono HBa.out.size)); have hy := HBX.out.below hb1; obtain ⟨_, _, _, _, _, _, _, _, _⟩ := nine_all hy; have hl1 := hy.lt; have HY1 := Lib.hid hy; clear hb1 hy)
              | (go_at_call 139; refine (HP.out _ HB1.out).mono ?_; rintro e w2 ⟨rfl, hb2⟩; have HB2 := Lib.hid (HB1.out.trans (hb2.mono HB1.out.size)); have hy := HY1.out.below hb2; obtain ⟨_, _, _, _, _, _, _, _, _⟩ := nine_all hy; have hl2 := hy.lt; have HY2 := Lib.hid hy; clear hb2 hy)
              | (go_at_call 105; refine (k_conK _ _).mono ?_; rintro e w3 ⟨rfl, hb3⟩; have HB3 := Lib.hid (HB2.out.trans (hb3.mono HB2.out.size)); have hy := HY2.out.below hb3; obtain ⟨_, _, _, _, _, _, _, _, _⟩ := nine_all hy; have hl3 := hy.lt; have HY3 := Lib.hid hy; clear hb3 hy)
              | (go_at_call 63; refine (HE.out _ HB3.out).mono ?_; rintro e w4 ⟨rfl, hc4, ho4⟩; have hy := ho4.box HY3.out (show ¬ (_ = w.heap.size) by omega); obtain ⟨_, _, _, _, _, _, _, _, _⟩ := nine_all hy; have hl4 := hy.lt; have HY4 := Lib.hid hy; have HC4 := Lib.hid hc4; have HO4 : Hid (Out (fun q => q = b ∨ q = w.heap.size) wo w4) := (Out.of_below HB3.out).trans (ho4.mono (fun q _ h => .inr h)); have HS4 := Lib.hid ((HS.out.below HB3.out).agree (ho4.block b (HS.out.below HB3.out).lt (show ¬ (b = w.heap.size) by omega))); clear hc4 ho4 hy)
              | (go_at_call 141; refine (HD.out _ HO4.out).mono ?_; rintro e w5 ⟨rfl, hb5⟩; have hy := HY4.out.below hb5; obtain ⟨_, _, _, _, _, _, _, _, _⟩ := nine_all hy; have hl5 := hy.lt; have HC5 := Lib.hid (HC4.out.below hb5); have HS5 := Lib.hid (HS4.out.below hb5); have HO5 := Lib.hid (HO4.out.next hb5); clear hb5 hy))
            refine bodyPost_ret (v := .tuple #[.int .i64 ra, .bool true]) (by simp only [results, Try.results110]; go_simp <;> rfl) rfl ?_
            exact ⟨nk, rfl, hnt, HS5.out, HO.out.into HO5.out (fun q hq h => h.elim id (fun e => by omega))⟩
          | true =>
            clear hfin
            have HRN : Hid (y1.or (Al.wrs cs bd (s :: seen) (l.drop (k + 1))) = R) := HRR.out
            obtain ⟨qb, hqb⟩ : ∃ qb, y1.isSome = qb := ⟨_, rfl⟩
            obtain ⟨qa, hqa⟩ : ∃ qa, atI y1 = qa := ⟨_, rfl⟩
            rw [hqb, hqa] at HW
            have HQB := Lib.hid hqb
            have HQA := Lib.hid hqa
            clear hqb hqa
            cases qb with
            | true =>
              have hyr : y1 = R := by
                have h1 := HQB.out
                have h2 := HRN.out
                cases y1 with
                | none => cases h1
                | some q => exact h2
              have he : rb = true := by rw [← HRB.out, ← hyr]; exact HQB.out
              have ha : ra = qa := by rw [← HRA.out, ← hyr]; exact HQA.out
              subst he
              subst ha
              clear hyr
              go_wp2_with (first
                | (go_at_call 106; refine (k_pattern _ _ _).mono ?_; rintro e w1 ⟨rfl, hb1⟩; have HB1 := Lib.hid (HBa.out.trans (hb1.mono HBa.out.size)); have hy := HBX.out.below hb1; obtain ⟨_, _, _, _, _, _, _, _, _⟩ := nine_all hy; have hl1 := hy.lt; have HY1 := Lib.hid hy; clear hb1 hy)
                | (go_at_call 139; refine (HP.out _ HB1.out).mono ?_; rintro e w2 ⟨rfl, hb2⟩; have HB2 := Lib.hid (HB1.out.trans (hb2.mono HB1.out.size)); have hy := HY1.out.below hb2; obtain ⟨_, _, _, _, _, _, _, _, _⟩ := nine_all hy; have hl2 := hy.lt; have HY2 := Lib.hid hy; clear hb2 hy)
                | (go_at_call 105; refine (k_conK _ _).mono ?_; rintro e w3 ⟨rfl, hb3⟩; have HB3 := Lib.hid (HB2.out.trans (hb3.mono HB2.out.size)); have hy := HY2.out.below hb3; obtain ⟨_, _, _, _, _, _, _, _, _⟩ := nine_all hy; have hl3 := hy.lt; have HY3 := Lib.hid hy; clear hb3 hy)
                | (go_at_call 63; refine (HE.out _ HB3.out).mono ?_; rintro e w4 ⟨rfl, hc4, ho4⟩; have hy := ho4.box HY3.out (show ¬ (_ = w.heap.size) by omega); obtain ⟨_, _, _, _, _, _, _, _, _⟩ := nine_all hy; have hl4 := hy.lt; have HY4 := Lib.hid hy; have HC4 := Lib.hid hc4; have HO4 : Hid (Out (fun q => q = b ∨ q = w.heap.size) wo w4) := (Out.of_below HB3.out).trans (ho4.mono (fun q _ h => .inr h)); have HS4 := Lib.hid ((HS.out.below HB3.out).agree (ho4.block b (HS.out.below HB3.out).lt (show ¬ (b = w.heap.size) by omega))); clear hc4 ho4 hy)
                | (go_at_call 141; refine (HD.out _ HO4.out).mono ?_; rintro e w5 ⟨rfl, hb5⟩; have hy := HY4.out.below hb5; obtain ⟨_, _, _, _, _, _, _, _, _⟩ := nine_all hy; have hl5 := hy.lt; have HC5 := Lib.hid (HC4.out.below hb5); have HS5 := Lib.hid (HS4.out.below hb5); have HO5 := Lib.hid (HO4.out.next hb5); clear hb5 hy)
                | (go_at_call 108; refine (HW.out _ nk HO5.out HS5.out rfl).mono ?_; rintro e w6 ⟨n6, rfl, hn6, hs6, ho6⟩; have HN6 := Lib.hid hn6; have HS6 := Lib.hid hs6; have HC6 := Lib.hid (HC5.out.agree (ho6.block w.heap.size HC5.out.lt (show ¬ (w.heap.size = b) by omega))); have HO6 : Hid (Out (fun q => q = b ∨ q = w.heap.size) wo w6) := HO5.out.trans (ho6.mono (fun q _ h => .inl h)); clear hn6 hs6 ho6))
              refine bodyPost_ret (v := .tuple #[.int .i64 ra, .bool true]) (by simp only [results, Try.results110]; go_simp <;> rfl) rfl ?_
              exact ⟨n6, rfl, by have := HN6.out; have := HT.out; have := HND.out; have := HNL.out; omega, HS6.out, HO.out.into HO6.out (fun q hq h => h.elim id (fun e => by omega))⟩
            | false =>
              have HRN2 : Hid (Al.wrs cs bd (s :: seen) (l.drop (k + 1)) = R) := by
                have h1 := HQB.out
                have h2 := HRN.out
                cases y1 with
                | none => exact h2
                | some q => cases h1
              go_wp2_with (first
                | (go_at_call 106; refine (k_pattern _ _ _).mono ?_; rintro e w1 ⟨rfl, hb1⟩; have HB1 := Lib.hid (HBa.out.trans (hb1.mono HBa.out.size)); have hy := HBX.out.below hb1; obtain ⟨_, _, _, _, _, _, _, _, _⟩ := nine_all hy; have hl1 := hy.lt; have HY1 := Lib.hid hy; clear hb1 hy)
                | (go_at_call 139; refine (HP.out _ HB1.out).mono ?_; rintro e w2 ⟨rfl, hb2⟩; have HB2 := Lib.hid (HB1.out.trans (hb2.mono HB1.out.size)); have hy := HY1.out.below hb2; obtain ⟨_, _, _, _, _, _, _, _, _⟩ := nine_all hy; have hl2 := hy.lt; have HY2 := Lib.hid hy; clear hb2 hy)
                | (go_at_call 105; refine (k_conK _ _).mono ?_; rintro e w3 ⟨rfl, hb3⟩; have HB3 := Lib.hid (HB2.out.trans (hb3.mono HB2.out.size)); have hy := HY2.out.below hb3; obtain ⟨_, _, _, _, _, _, _, _, _⟩ := nine_all hy; have hl3 := hy.lt; have HY3 := Lib.hid hy; clear hb3 hy)
                | (go_at_call 63; refine (HE.out _ HB3.out).mono ?_; rintro e w4 ⟨rfl, hc4, ho4⟩; have hy := ho4.box HY3.out (show ¬ (_ = w.heap.size) by omega); obtain ⟨_, _, _, _, _, _, _, _, _⟩ := nine_all hy; have hl4 := hy.lt; have HY4 := Lib.hid hy; have HC4 := Lib.hid hc4; have HO4 : Hid (Out (fun q => q = b ∨ q = w.heap.size) wo w4) := (Out.of_below HB3.out).trans (ho4.mono (fun q _ h => .inr h)); have HS4 := Lib.hid ((HS.out.below HB3.out).agree (ho4.block b (HS.out.below HB3.out).lt (show ¬ (b = w.heap.size) by omega))); clear hc4 ho4 hy)
                | (go_at_call 141; refine (HD.out _ HO4.out).mono ?_; rintro e w5 ⟨rfl, hb5⟩; have hy := HY4.out.below hb5; obtain ⟨_, _, _, _, _, _, _, _, _⟩ := nine_all hy; have hl5 := hy.lt; have HC5 := Lib.hid (HC4.out.below hb5); have HS5 := Lib.hid (HS4.out.below hb5); have HO5 := Lib.hid (HO4.out.next hb5); clear hb5 hy)
                | (go_at_call 108; refine (HW.out _ nk HO5.out HS5.out rfl).mono ?_; rintro e w6 ⟨n6, rfl, hn6, hs6, ho6⟩; have HN6 := Lib.hid hn6; have HS6 := Lib.hid hs6; have HC6 := Lib.hid (HC5.out.agree (ho6.block w.heap.size HC5.out.lt (show ¬ (w.heap.size = b) by omega))); have HO6 : Hid (Out (fun q => q = b ∨ q = w.heap.size) wo w6) := HO5.out.trans (ho6.mono (fun q _ h => .inl h)); clear hn6 hs6 ho6))
              go_roundw
              case rel => exact ⟨k + 1, n6, s :: seen, by omega, by go_num, by simp [hsl], HRN2, (show _ ≤ _ by have := HN6.out; have := HT.out; have := HND.out; have := HNL.out; omega), HS6, HC6, HO.out.into HO6.out (fun q hq h => h.elim id (fun e => by omega))⟩
              case measure => simp [intOf]; omega
    · have hkm : k = m := by omega
      subst hkm
      have hRR : R = none := by
        rw [← HR.out, List.drop_of_length_le (by rw [HM.out]; exact Nat.le_refl _)]; simp only [Al.wrs]
      have he : rb = false := by rw [← HRB.out, hRR]; rfl
      have ha : ra = 0 := by rw [← HRA.out, hRR]; rfl
      have hnt : nk ≤ TN := by have := HT.out; omega
      subst he
      subst ha
      clear hRR
      go_wp2_with fail
      refine bodyPost_ret (v := .tuple #[.int .i64 0, .bool false]) (by simp only [results, Try.results110]; go_simp <;> rfl) rfl ?_
      exact ⟨nk, rfl, hnt, HS.out, HO.out⟩

end Go.Proofs.Ytjfogodfpmfhhaa

namespace Go.Proofs.Ytjfogodfpmfhhaa
open Go.RowKit Go.Maps
set_option linter.unusedVariables false
set_option linter.unusedSimpArgs false

set_option maxRecDepth 100000 in
set_option maxHeartbeats 16000000 in
theorem wx_step (k p : Int) (s : By) (n : Int) (kids : List Ex) (alts : List Al) (hX : ∀ x ∈ kids, WX x) (hA : ∀ p s names x, Al.mk p s names x ∈ alts → WX x) : WX (.mk k p s n kids alts) := by
  intro b nn0 cs bd S v w hf hs0 hv0 hq0 h1 h2
  obtain ⟨R, hR⟩ : ∃ R, (Ex.mk k p s n kids alts).wr cs bd = R := ⟨_, rfl⟩
  have hbl := hs0.lt
  have hv : IsV (fun q => q ≠ b ∧ q < w.heap.size) w (exC (.mk k p s n kids alts)) v := hv0.mono fun q h1 h2 => ⟨hq0 q h1 h2, h1⟩
  obtain ⟨a, c, a', c', rfl, hk, hk'⟩ := hv.ex
  have hLm := hk.max_len
  obtain ⟨m, hm⟩ : ∃ m, kids.length = m := ⟨_, rfl⟩
  obtain ⟨m', hm'⟩ : ∃ m', alts.length = m' := ⟨_, rfl⟩
  obtain ⟨z, hz⟩ : ∃ z, strB s = z := ⟨_, rfl⟩
  rw [hR]
  obtain ⟨rb, hrb⟩ : ∃ rb, R.isSome = rb := ⟨_, rfl⟩
  obtain ⟨ra, hra⟩ : ∃ ra, atI R = ra := ⟨_, rfl⟩
  rw [hrb, hra]
  simp only [Ex.fit] at hf
  obtain ⟨hf1, _, hf2, hf3⟩ := hf
  simp only [Ex.nn] at h1 h2 ⊢
  have hls : bd.length + 2 * cs.length ≤ 90000000 := by omega
  obtain ⟨r0, hr0⟩ : ∃ r0, nameOk cs bd k s = r0 := ⟨_, rfl⟩
  have hRR : (if r0 = true then (Ex.wrs cs bd k s 0 kids).or (Al.wrs cs bd [] alts) else some p) = R := by rw [← hR]; simp only [Ex.wr]; rw [hr0]
  obtain ⟨TN, hTN⟩ : ∃ TN, nn0 + 2 * (Ex.nns kids + Al.nns alts) = TN := ⟨_, rfl⟩
  rw [hTN] at h1 ⊢
  have hn0 : nn0 ≤ TN := by omega
  have hb0 : Below w.heap.size w (w.alloc (.cells #[.int .i64 k, .int .i64 p, .string z, .int .i64 n, .slice a m c, .slice a' m' c'] 43)) := (Below.refl _ w).alloc (Nat.le_refl _) _
  have HN := Lib.hid (fun (w' : World) (hw : Below w.heap.size w w') => k_hasName k p n s kids alts _ w' b nn0 cs bd (hs0.below hw) hf1 hls (hv.under hw) hr0)
  have HBI := Lib.hid (fun (w' : World) (i : Nat) (ho : Out (fun q => q = b) w w') => k_boundIn k p n s kids alts _ w' i (hv.keep ho (fun q _ h => h.1)) rfl)
  rw [hm, hm', hz] at HN HBI
  rw [hm, hm', hz]
  have HB0 := Lib.hid hb0
  have HBX0 := Lib.hid (Box.new w 43 [.int .i64 k, .int .i64 p, .string z, .int .i64 n, .slice a m c, .slice a' m' c'])
  have HS0 := Lib.hid hs0
  rw [exsC_eq] at hk
  have HK := Lib.hid hk
  have HK' := Lib.hid hk'
  rw [hm] at hLm
  have HM := Lib.hid hm
  have HM' := Lib.hid hm'
  have HX := Lib.hid hX
  have HAX := Lib.hid hA
  have HF2 := Lib.hid ((Ex.fits_iff kids).1 hf2)
  have HF3 := Lib.hid hf3
  have HFS := Lib.hid hf1
  have HRB := Lib.hid hrb
  have HRA := Lib.hid hra
  have HRR := Lib.hid hRR
  have HTN := Lib.hid hTN
  have HBD := Lib.hid h2
  have HK2 : Hid (InC (fun q => q ≠ b ∧ q < w.heap.size) w (.s alts.length 9 (alsC alts)) (.slice a' m' c')) := by show InC _ _ _ _; rw [← hm']; exact hk'
  clear hv hv0 hq0 hs0 hk hk' hX hA hf2 hf3 hf1 hrb hra hRR hTN h2 hR hm hm' hz hb0 hr0 HK'
  cases r0 with
  | false =>
    have hR3 : R = some p := HRR.out.symm
    have he : rb = true := by rw [← HRB.out, hR3]; rfl
    have ha : ra = p := by rw [← HRA.out, hR3]; rfl
    subst he
    subst ha
    clear hR3
    go_enter Try.func65, Try.ntmps65
    go_wp2_with (go_at_call 107; refine (HN.out _ HB0.out).mono ?_; rintro e w1 ⟨rfl, hb1⟩; have hy := HBX0.out.below hb1; obtain ⟨_, _, _, _, _, _⟩ := six_cells hy; have hl1 := hy.lt; have HB1 := Lib.hid (HB0.out.trans (hb1.mono HB0.out.size)); clear hb1 hy)
    refine bodyPost_ret (v := .tuple #[.int .i64 ra, .bool true]) (by simp only [results, Try.results65]; go_simp <;> rfl) rfl ?_
    exact ⟨nn0, rfl, hn0, HS0.out.below HB1.out, Out.of_below HB1.out⟩
  | true =>
    have HR0 : Hid ((Ex.wrs cs bd k s (0 + 0) (kids.drop 0)).or (Al.wrs cs bd [] alts) = R) := by show _ = _; simpa using HRR.out
    clear HRR
    go_enter Try.func65, Try.ntmps65
    go_wp2_with (go_at_call 107; refine (HN.out _ HB0.out).mono ?_; rintro e w1 ⟨rfl, hb1⟩; have hy := HBX0.out.below hb1; obtain ⟨_, _, _, _, _, _⟩ := six_cells hy; have hl1 := hy.lt; have HB1 := Lib.hid (HB0.out.trans (hb1.mono HB0.out.size)); have HY1 := Lib.hid hy; clear hb1 hy HN)
    have HS1 := Lib.hid (HS0.out.below HB1.out)
    have HO1 : Hid (Out (fun q => q = b) w w1) := Out.of_below HB1.out
    have HT1 : Hid (nn0 + 2 * (Ex.nns (kids.drop 0) + Al.nns alts) ≤ TN) := by show _ ≤ _; simpa using Nat.le_of_eq HTN.out
    clear HS0 HBX0 HB0 HTN HB1
    go_loopw [19] (fun iv wr => ∃ (i nk : Nat), i ≤ m ∧ iv = .int .i64 (i : Int) ∧ Hid ((Ex.wrs cs bd k s (0 + i) (kids.drop i)).or (Al.wrs cs bd [] alts) = R) ∧ Hid (nk + 2 * (Ex.nns (kids.drop i) + Al.nns alts) ≤ TN) ∧ Hid (SC wr b nk cs bd) ∧ Hid (Box wr w.heap.size 43 [.int .i64 k, .int .i64 p, .string z, .int .i64 n, .slice a m c, .slice a' m' c']) ∧ Hid (Out (fun q => q = b) w wr)) (fun iv _ => m - (intOf iv).toNat)
    case atStart => exact ⟨0, nn0, Nat.zero_le _, rfl, HR0, HT1, HS1, HY1, HO1⟩
    case round =>
      clear HR0 HT1 HS1 HY1 HO1
      obtain ⟨i, nk, hi, rfl, HR, HT, HS, HY, HO⟩ := hrel
      obtain ⟨wo, rfl⟩ : ∃ wo, wo = wr := ⟨wr, rfl⟩
      have hyl := HY.out.lt
      obtain ⟨_, _, _, _, _, _⟩ := six_cells HY.out
      by_cases hlt : i < m
      · obtain ⟨x, hx⟩ : ∃ x, kids[i]? = some x := ⟨_, List.getElem?_eq_getElem (by rw [HM.out]; exact hlt)⟩
        have hxm := List.mem_of_getElem? hx
        have hnd := Ex.nns_drop hx
        have hnx := Ex.nns_mem hxm
        have hfx := HF2.out x hxm
        have hWX := HX.out x hxm
        have hnext := Ex.wrs_next (cs := cs) (bd := bd) (k := k) (s := s) (j := 0) hx
        have hKw := HK.out.keep HO.out (fun q _ h => h.1)
        obtain ⟨g, off, us, rfl, hg, hxv, hc⟩ := hKw.elem exC_len hx
        obtain ⟨z0, z1, z2, z3, z4, z5, z6, z7, z8, z9, hz9, _⟩ := hxv.exs
        obtain rfl := agg_inj hz9
        obtain ⟨zt, hzt⟩ : ∃ zt, strB z3 = zt := ⟨_, rfl⟩
        have q0 := hc 0 _ rfl
        have q1 := hc 1 _ rfl
        have q2 := hc 2 _ rfl
        have q3 := hc 3 _ rfl
        have q4 := hc 4 _ rfl
        have q5 := hc 5 _ rfl
        rw [← Nat.add_assoc] at q0 q1 q2 q3 q4 q5
        rw [Nat.add_zero] at q0
        have T1 : ∀ W, Sem.run Try.prog (Instr.indexAt 40 (.slice (some ⟨g, off, none⟩) m c) (.int .i64 (i : Int))) W = .ok (.pointer (some ⟨g, off + i * 6, none⟩)) W := fun W => by go_simp
        obtain ⟨B, hB⟩ : ∃ B, bindsIn k s i = B := ⟨_, rfl⟩
        have hBl : B.length ≤ 1 := by rw [← hB]; unfold bindsIn; split <;> simp
        have hBf : ∀ t ∈ B, t.length ≤ 1000000 := by
          rw [← hB]; unfold bindsIn; intro t ht
          split at ht
          · obtain rfl := List.mem_singleton.1 ht; exact HFS.out
          · simp at ht
        obtain ⟨y1, hy1⟩ : ∃ y1, x.wr cs (B ++ bd) = y1 := ⟨_, rfl⟩
        rw [Nat.zero_add, hB, hy1] at hnext
        have HRN : Hid ((y1.or (Ex.wrs cs bd k s (0 + (i + 1)) (kids.drop (i + 1)))).or (Al.wrs cs bd [] alts) = R) := by show _ = _; rw [← hnext]; have := HR.out; rwa [Nat.zero_add] at this
        obtain ⟨qb, hqb⟩ : ∃ qb, y1.isSome = qb := ⟨_, rfl⟩
        obtain ⟨qa, hqa⟩ : ∃ qa, atI y1 = qa := ⟨_, rfl⟩
        have HBIx := Lib.hid (fun (w' : World) (hw : Below wo.heap.size wo w') => HBI.out w' i (HO.out.next hw))
        rw [hB] at HBIx
        have HW : Hid (∀ (w' w'' : World) (aL : Option Addr) (cL : Nat), Below wo.heap.size wo w' → InC (New wo) w' (.s B.length 1 (strsC B)) (.slice aL B.length cL) → Calls Try.prog 108 #[.map (some b), .slice aL B.length cL, .agg #[.int .i64 z0, .int .i64 z1, .string zt, .int .i64 z2, .slice z4 z6 z8, .slice z5 z7 z9]] w' fun e w'' => ∃ n', e = .returned (.tuple #[.int .i64 qa, .bool qb]) ∧ n' ≤ nk + 2 * (1 + x.nn) ∧ SC w'' b n' cs bd ∧ Out (fun q => q = b) w' w'') := fun w' _ aL cL hw hL => by
          have hbw := HS.out.lt
          have := k_within x hWX b nk cs bd B (fun q => q ≠ b ∧ q < w.heap.size) (New wo) _ aL B.length cL w' hfx hBf rfl (HS.out.below hw) hL (by have := hxv.under hw; rwa [hzt] at this) (fun q _ h => h.1) (fun q _ h => by unfold New at h; omega) (by have := HT.out; omega) (by have := HBD.out; omega)
          rw [hy1, hqb, hqa] at this
          refine this.mono ?_
          rintro e w2 ⟨n', he, hn', hs', ho'⟩
          exact ⟨n', he, by omega, hs', ho'⟩
        have HQB := Lib.hid hqb
        have HQA := Lib.hid hqa
        have HND := Lib.hid hnd
        rw [hzt] at q2
        obtain ⟨lB, hlB⟩ : ∃ lB, B.length = lB := ⟨_, rfl⟩
        rw [hlB] at HBIx HW
        have HBa : Hid (Below wo.heap.size wo (wo.alloc (.cells #[.int .i64 z0, .int .i64 z1, .string zt, .int .i64 z2, .slice z4 z6 z8, .slice z5 z7 z9] 43))) := (Below.refl _ wo).alloc (Nat.le_refl _) _
        have HBX := Lib.hid (Box.new wo 43 [.int .i64 z0, .int .i64 z1, .string zt, .int .i64 z2, .slice z4 z6 z8, .slice z5 z7 z9])
        have hbw := HS.out.lt
        clear hc hxv hx hxm hnd hnx hfx hWX hnext hKw hzt hB hBl hBf hy1 hqb hqa hlB
        have HY2 := Lib.hid (HY.out.alloc (.cells #[.int .i64 z0, .int .i64 z1, .string zt, .int .i64 z2, .slice z4 z6 z8, .slice z5 z7 z9] 43))
        have HO2 : Hid (Out (fun q => q = b) w (wo.alloc (.cells #[.int .i64 z0, .int .i64 z1, .string zt, .int .i64 z2, .slice z4 z6 z8, .slice z5 z7 z9] 43))) := HO.out.alloc _
        go_wp2_with fail
        go_cut [8, 9] (fun v8 v9 wx => v8 = .int .i64 qa ∧ v9 = .bool qb ∧ ∃ n6, n6 ≤ nk + 2 * (1 + x.nn) ∧ SC wx b n6 cs bd ∧ Out (fun q => q = b) wo wx)
        case first =>
          go_region_with (first
            | (go_at_call 109; (with_reducible refine (HBIx.out _ HBa.out.drew).mono ?_); rintro e w5 ⟨aL, cL, rfl, hL5, hb5⟩; have HB5 := Lib.hid (HBa.out.drew.trans (hb5.mono HBa.out.drew.size)); have HL5 := Lib.hid (hL5.mono (S' := New wo) (fun q _ h => by have := HBa.out.size; unfold New at *; simp at h; omega)); have hy := HY2.out.drew.below hb5; obtain ⟨_, _, _, _, _, _⟩ := six_cells hy; have hl5 := hy.lt; have hz := HBX.out.drew.below hb5; obtain ⟨_, _, _, _, _, _⟩ := six_cells hz; have hlz := hz.lt; clear hb5 hL5 hy hz)
            | (go_at_call 108; (with_reducible refine (HW.out _ wo _ _ HB5.out HL5.out).mono ?_); rintro e w6 ⟨n6, rfl, hn6, hs6, ho6⟩; have HN6 := Lib.hid hn6; have HS6 := Lib.hid hs6; have HO6 : Hid (Out (fun q => q = b) wo w6) := (Out.of_below HB5.out).trans ho6; clear hn6 hs6 ho6))
          all_goals go_wp2_with fail
          all_goals go_meet
          all_goals exact ⟨rfl, rfl, n6, HN6.out, HS6.out, HO6.out⟩
        case rest =>
          obtain ⟨rfl, rfl, n6, hn6, hs6, ho6⟩ := hcut
          have HN6 := Lib.hid hn6
          have HS6 := Lib.hid hs6
          have HO6 := Lib.hid ho6
          clear hn6 hs6 ho6 HW HBIx HBX HY2 HO2
          cases qb with
          | true =>
            have hyr : y1 = R := by
              have h1 := HQB.out
              have h2 := HRN.out
              cases y1 with
              | none => cases h1
              | some q => exact h2
            have he : rb = true := by rw [← HRB.out, ← hyr]; exact HQB.out
            have ha : ra = qa := by rw [← HRA.out, ← hyr]; exact HQA.out
            have hnT : n6 ≤ TN := by have := HN6.out; have := HT.out; have := HND.out; omega
            subst he
            subst ha
            clear hyr
            go_wp2_with fail
            refine bodyPost_ret (v := .tuple #[.int .i64 ra, .bool true]) (by simp only [results, Try.results65]; go_simp <;> rfl) rfl ?_
            exact ⟨n6, rfl, hnT, HS6.out, HO.out.trans HO6.out⟩
          | false =>
            have HRN2 : Hid ((Ex.wrs cs bd k s (0 + (i + 1)) (kids.drop (i + 1))).or (Al.wrs cs bd [] alts) = R) := by
              have h1 := HQB.out
              have h2 := HRN.out
              cases y1 with
              | none => exact h2
              | some q => cases h1
            have HT2 : Hid (n6 + 2 * (Ex.nns (kids.drop (i + 1)) + Al.nns alts) ≤ TN) := by show _ ≤ _; have := HN6.out; have := HT.out; have := HND.out; omega
            have HY6 := Lib.hid (HO6.out.box HY.out (show ¬ (_ = b) by omega))
            go_wp2_with fail
            go_roundw
            case rel => exact ⟨i + 1, n6, by omega, by go_num, HRN2, HT2, HS6, HY6, HO.out.trans HO6.out⟩
            case measure => simp [intOf]; omega
      · have him : i = m := by omega
        subst him
        have hRA : Al.wrs cs bd [] alts = R := by
          have := HR.out
          rw [List.drop_of_length_le (by rw [HM.out]; exact Nat.le_refl _)] at this
          simpa [Ex.wrs] using this
        have hnT : nk + 2 * Al.nns alts ≤ TN := by have := HT.out; omega
        have hKa := HK2.out.keep HO.out (fun q _ h => h.1)
        have hAA := k_among alts HAX.out b nk cs bd (fun q => q ≠ b ∧ q < w.heap.size) a' m' c' wo HF3.out HS.out hKa (fun q _ h => h.1) (by omega) (by have := HBD.out; omega)
        rw [hRA, HRB.out, HRA.out] at hAA
        have HA2 := Lib.hid hAA
        clear hRA hKa hAA
        go_wp2_with (go_at_call 110; (with_reducible refine (HA2.out).mono ?_); rintro e w6 ⟨n6, rfl, hn6, hs6, ho6⟩; have HN6 := Lib.hid hn6; have HS6 := Lib.hid hs6; have HO6 := Lib.hid (HO.out.trans ho6); clear hn6 hs6 ho6)
        refine bodyPost_ret (v := .tuple #[.int .i64 ra, .bool rb]) (by simp only [results, Try.results65]; go_simp <;> rfl) rfl ?_
        exact ⟨n6, rfl, by have := HN6.out; omega, HS6.out, HO6.out⟩
theorem wx_all : ∀ (d : Nat) (x : Ex), x.deep ≤ d → WX x
  | 0, .mk k p s n kids alts, h => by simp only [Ex.deep] at h; omega
  | d + 1, .mk k p s n kids alts, h => wx_step k p s n kids alts (fun x hx => wx_all d x (by have := Ex.deeps_mem hx; simp only [Ex.deep] at h; omega)) (fun p s names x hx => wx_all d x (by have h3 := Al.deeps_mem hx; simp only [Ex.deep] at h; simp only [Al.deep] at h3; omega))

end Go.Proofs.Ytjfogodfpmfhhaa

namespace Go.Proofs.Ytjfogodfpmfhhaa
open Go.RowKit Go.Maps
set_option linter.unusedVariables false
set_option linter.unusedSimpArgs false

/-- What the map has behind some Cons, the last first. -/
def conK (l : List Cn) : List BK := (l.flatMap fun c => [cK c.s, pK (c.s, c.args.length)]).reverse
def datK (l : List Dt) : List BK := conK (l.flatMap Dt.cons)
theorem conK_snoc (l : List Cn) (c : Cn) : conK (l ++ [c]) = pK (c.s, c.args.length) :: cK c.s :: conK l := by simp [conK]
theorem conK_app (l m : List Cn) : conK (l ++ m) = conK m ++ conK l := by simp [conK]
theorem conK_len (l : List Cn) : (conK l).length = 2 * l.length := by
  unfold conK
  rw [List.length_reverse]
  induction l with
  | nil => rfl
  | cons c r ih => rw [List.flatMap_cons, List.length_append, ih, List.length_cons]; simp; omega
theorem datK_scL (l : List Dt) : (datK l).Perm (scL (consL l) []) := by
  unfold datK conK scL
  refine (List.reverse_perm _).trans ?_
  rw [List.map_nil, List.nil_append]
  have : ∀ l : List Dt, ((l.flatMap Dt.cons).flatMap fun c => [cK c.s, pK (c.s, c.args.length)]) = (consL l).flatMap fun c => [cK c.1, pK c] := by
    intro l
    induction l with
    | nil => rfl
    | cons d r ih =>
      rw [List.flatMap_cons, List.flatMap_append, ih]
      unfold consL
      rw [List.flatMap_cons, List.flatMap_append]
      congr 1
      induction d.cons with
      | nil => rfl
      | cons c q ih2 => simp only [List.flatMap_cons, List.map_cons, ih2]
  rw [this]

set_option maxRecDepth 100000 in
set_option maxHeartbeats 8000000 in
theorem k_declared {S0 : Nat → Prop} (w : World) (l : List Dt) (a : Option Addr) (m cap : Nat) (hm : l.length = m) (hlen : ∀ d ∈ l, ∀ c ∈ d.cons, c.s.length ≤ 1000000 ∧ c.args.length ≤ 1000000) (hcn : (l.flatMap Dt.cons).length ≤ 1000000) (hN0 : InC S0 w (.s l.length 4 (l.flatMap dtC)) (.slice a m cap)) :
    Calls Try.prog 62 #[.slice a m cap] w fun e w' => ∃ b, e = .returned (.map (some b)) ∧ w.heap.size ≤ b ∧ SC w' b (2 * (l.flatMap Dt.cons).length) (consL l) [] ∧ Below w.heap.size w w' := by
  have hmm := @run_makeMap Try.prog
  have hN : InC (fun q => q < w.heap.size) w (.s l.length 4 (l.flatMap dtC)) (.slice a m cap) := hN0.mono fun q h1 _ => h1
  have hLm := hN.max_len
  rw [hm] at hLm
  have HN := Lib.hid hN
  have HM := Lib.hid hm
  have HL := Lib.hid hlen
  have HCN := Lib.hid hcn
  have HC0 : Hid (CM (w.alloc (.map #[] 0)) w.heap.size (2 * ((l.take 0).flatMap Dt.cons).length) (datK (l.take 0))) := CM.made w
  have HB0 : Hid (Below w.heap.size w (w.alloc (.map #[] 0))) := (Below.refl _ w).alloc (Nat.le_refl _) _
  clear hN0 hN hm hlen hcn
  go_enter Try.func62, Try.ntmps62
  go_wp2_with fail
  go_loopw [11] (fun iv wr => ∃ k : Nat, k ≤ m ∧ iv = .int .i64 (k : Int) ∧ Hid (CM wr w.heap.size (2 * ((l.take k).flatMap Dt.cons).length) (datK (l.take k))) ∧ Hid (Below w.heap.size w wr)) (fun iv _ => m - (intOf iv).toNat)
  case atStart => exact ⟨0, Nat.zero_le _, rfl, HC0, HB0⟩
  case round =>
    clear HC0 HB0
    obtain ⟨k, hk, rfl, HC, HB⟩ := hrel
    obtain ⟨wo, rfl⟩ : ∃ wo, wo = wr := ⟨wr, rfl⟩
    by_cases hlt : k < m
    · obtain ⟨d, hd⟩ : ∃ d, l[k]? = some d := ⟨_, List.getElem?_eq_getElem (by rw [HM.out]; exact hlt)⟩
      have hdl := HL.out d (List.mem_of_getElem? hd)
      have htk := take_snoc' hd
      have hcl : ((l.take k).flatMap Dt.cons).length + d.cons.length ≤ 1000000 := by
        have h1 := HCN.out
        have h2 : l = l.take k ++ d :: l.drop (k + 1) := by rw [← drop_cons hd, List.take_append_drop]
        rw [h2, List.flatMap_append, List.length_append, List.flatMap_cons, List.length_append] at h1
        omega
      obtain ⟨g, off, us, rfl, hg, hxv, hc⟩ := HN.out.elem dtC_len hd
      obtain ⟨a1, a2, c1, c2, hz9, hvs, hcs⟩ := hxv.dtp
      obtain rfl := agg_inj hz9
      have hbw : g < wo.heap.size := by have := HB.out.size; omega
      have hcc : ∀ (j : Nat) (u : Value), ([.string (strB d.s), .int .i64 d.p, .slice a1 d.vars.length c1, .slice a2 d.cons.length c2] : List Value)[j]? = some u → wo.cell? ⟨g, off + (k * 4 + j), none⟩ = some u := fun j u hu => (HB.out.cell (p := ⟨g, off + (k * 4 + j), none⟩) hg).trans (hc j u hu)
      have q0 := hcc 0 _ rfl
      have q1 := hcc 1 _ rfl
      have q2 := hcc 2 _ rfl
      have q3 := hcc 3 _ rfl
      rw [← Nat.add_assoc] at q0 q1 q2 q3
      rw [Nat.add_zero] at q0
      have T1 : ∀ W, Sem.run Try.prog (Instr.indexAt 25 (.slice (some ⟨g, off, none⟩) m cap) (.int .i64 (k : Int))) W = .ok (.pointer (some ⟨g, off + k * 4, none⟩)) W := fun W => by go_simp
      have HTK := Lib.hid htk
      have HCS := Lib.hid hcs
      have HDL := Lib.hid hdl
      obtain ⟨L, hL⟩ : ∃ L, d.cons = L := ⟨_, rfl⟩
      have HLL := Lib.hid hL
      rw [hL] at HCS q3 HDL hcl
      obtain ⟨nc, hnc⟩ : ∃ nc, L.length = nc := ⟨_, rfl⟩
      have HNC := Lib.hid hnc
      have hcm := HCS.out.max_len
      rw [hnc] at HCS q3 hcl hcm
      obtain ⟨zs, hzs⟩ : ∃ zs, strB d.s = zs := ⟨_, rfl⟩
      rw [hzs] at q0
      obtain ⟨nv, hnv⟩ : ∃ nv, d.vars.length = nv := ⟨_, rfl⟩
      rw [hnv] at q2
      obtain ⟨n0, hn0⟩ : ∃ n0, ((l.take k).flatMap Dt.cons).length = n0 := ⟨_, rfl⟩
      obtain ⟨K0, hK0⟩ : ∃ K0, datK (l.take k) = K0 := ⟨_, rfl⟩
      have hKl : K0.length = 2 * n0 := by rw [← hK0, ← hn0]; exact conK_len _
      rw [hn0] at hcl HC
      rw [hK0] at HC
      have HN0 := Lib.hid hn0
      have HK0 := Lib.hid hK0
      have HBa : Hid (Below w.heap.size w (wo.alloc (.cells #[.string zs, .int .i64 d.p, .slice a1 nv c1, .slice a2 nc c2] 56))) := HB.out.alloc HB.out.size _
      have HCa : Hid (CM (wo.alloc (.cells #[.string zs, .int .i64 d.p, .slice a1 nv c1, .slice a2 nc c2] 56)) w.heap.size (2 * (n0 + 0)) (conK (L.take 0) ++ K0)) := HC.out.below ((Below.refl _ wo).alloc (Nat.le_refl _) _)
      clear hcc hc hxv hd hvs hcs hdl htk hL hnc hzs hnv hn0 hK0 HC
      go_wp2_with fail
      obtain ⟨W2, hW2⟩ : ∃ W2, wo.alloc (.cells #[.string zs, .int .i64 d.p, .slice a1 nv c1, .slice a2 nc c2] 56) = W2 := ⟨_, rfl⟩
      rw [hW2] at HBa HCa
      try rw [hW2]
      clear hW2
      go_loopw [18] (fun iv wr => ∃ j : Nat, j ≤ nc ∧ iv = .int .i64 (j : Int) ∧ Hid (CM wr w.heap.size (2 * (n0 + j)) (conK (L.take j) ++ K0)) ∧ Hid (Below w.heap.size w wr)) (fun iv _ => nc - (intOf iv).toNat)
      case atStart => exact ⟨0, Nat.zero_le _, rfl, HCa, HBa⟩
      case round =>
        rename World => wr
        clear HCa HBa
        obtain ⟨j, hj, rfl, HC, HBJ⟩ := hrel
        obtain ⟨wi, rfl⟩ : ∃ wi, wi = wr := ⟨wr, rfl⟩
        by_cases hlt2 : j < nc
        · obtain ⟨y, hyy⟩ : ∃ y, L[j]? = some y := ⟨_, List.getElem?_eq_getElem (by rw [HNC.out]; exact hlt2)⟩
          obtain ⟨hf1, hf2⟩ := HDL.out y (List.mem_of_getElem? hyy)
          have hk1 := HCS.out
          rw [← HNC.out] at hk1
          obtain ⟨g2, o, us, rfl, hg2, hyv, hcy⟩ := hk1.elem cnC_len hyy
          obtain ⟨d1, e1, hz9, _⟩ := hyv.cn
          obtain rfl := agg_inj hz9
          have hgw : g2 < wi.heap.size := by have := HBJ.out.size; omega
          have hcc : ∀ (q : Nat) (u : Value), ([.string (strB y.s), .int .i64 y.p, .slice d1 y.args.length e1] : List Value)[q]? = some u → wi.cell? ⟨g2, o + (j * 3 + q), none⟩ = some u := fun q u hu => (HBJ.out.cell (p := ⟨g2, o + (j * 3 + q), none⟩) hg2).trans (hcy q u hu)
          have q0 := hcc 0 _ rfl
          have q1 := hcc 1 _ rfl
          have q2 := hcc 2 _ rfl
          rw [← Nat.add_assoc] at q0 q1 q2
          rw [Nat.add_zero] at q0
          have T2 : ∀ W, Sem.run Try.prog (Instr.indexAt 54 (.slice (some ⟨g2, o, none⟩) nc c2) (.int .i64 (j : Int))) W = .ok (.pointer (some ⟨g2, o + j * 3, none⟩)) W := fun W => by go_simp
          have hj1 : j + 1 ≤ nc := hlt2
          have HT2 : Hid (conK (L.take (j + 1)) ++ K0 = pK (y.s, y.args.length) :: cK y.s :: (conK (L.take j) ++ K0)) := by show _ = _; rw [take_snoc' hyy, conK_snoc]; rfl
          have hlK : (conK (L.take j) ++ K0).length ≤ 80000000 := by rw [List.length_append, conK_len, List.length_take]; omega
          obtain ⟨KJ, hKJ⟩ : ∃ KJ, conK (L.take j) ++ K0 = KJ := ⟨_, rfl⟩
          rw [hKJ] at hlK HC HT2
          obtain ⟨zy, hzy⟩ : ∃ zy, strB y.s = zy := ⟨_, rfl⟩
          obtain ⟨na, hna⟩ : ∃ na, y.args.length = na := ⟨_, rfl⟩
          have HE1 := Lib.hid (fun (w' : World) (hw : Below wi.heap.size wi w') => (HC.out.below hw).enterC hf1 (by omega) (by omega) hzy)
          have HE2 := Lib.hid (fun (w' : World) (hc : CM w' w.heap.size (2 * (n0 + j) + 1) (cK y.s :: KJ)) => hc.enterP (m := na) hf1 (by omega) (by omega) (by rw [List.length_cons]; omega) hzy)
          rw [hzy] at q0
          rw [hna] at q2 HT2
          have HBX := Lib.hid (Box.new wi 59 [.string zy, .int .i64 y.p, .slice d1 na e1])
          have HBb : Hid (Below wi.heap.size wi (wi.alloc (.cells #[.string zy, .int .i64 y.p, .slice d1 na e1] 59))) := (Below.refl _ wi).alloc (Nat.le_refl _) _
          have hcw := HC.out.lt
          clear hcc hcy hyv hyy hk1 hf1 hf2 hzy hna hKJ hlK
          go_wp2_with (first
            | (go_at_call 105; refine (k_conK _ _).mono ?_; rintro e w1 ⟨rfl, hb1⟩; have HB1 := Lib.hid (HBb.out.trans (hb1.mono HBb.out.size)); have HY1 := Lib.hid (HBX.out.below hb1); clear hb1)
            | (go_at_call 63; refine (HE1.out _ HB1.out).mono ?_; rintro e w2 ⟨rfl, hc2, ho2⟩; have hy := ho2.box HY1.out (show ¬ (_ = w.heap.size) by omega); obtain ⟨_, _, _, _, _, _⟩ := hy.three; have hl2 := hy.lt; have HC2 := Lib.hid hc2; have HO2 : Hid (Out (fun q => q = w.heap.size) wi w2) := (Out.of_below HB1.out).trans ho2; clear hc2 ho2 hy HB1)
            | (go_at_call 106; refine (k_pattern _ _ _).mono ?_; rintro e w3 ⟨rfl, hb3⟩; have HC3 := Lib.hid (HC2.out.below hb3); have HO3 := Lib.hid (HO2.out.next hb3); clear hb3 HO2)
            | (go_at_call 63; refine (HE2.out _ HC3.out).mono ?_; rintro e w4 ⟨rfl, hc4, ho4⟩; have HC4 := Lib.hid hc4; have HO4 := Lib.hid (HO3.out.trans ho4); clear hc4 ho4))
          have HBZ : Hid (Below w.heap.size w w4) := HBJ.out.trans (HO4.out.below HBJ.out.size (fun q hq => by show ¬ (q = w.heap.size); omega))
          go_roundw
          case rel => exact ⟨j + 1, by omega, by go_num, by rw [HT2.out, show 2 * (n0 + (j + 1)) = 2 * (n0 + j) + 1 + 1 by omega]; exact HC4, HBZ⟩
          case measure => simp [intOf]; omega
        · have hjm : j = nc := by omega
          have HCE : Hid (CM wi w.heap.size (2 * ((l.take (k + 1)).flatMap Dt.cons).length) (datK (l.take (k + 1)))) := by
            have := HC.out
            rw [List.take_of_length_le (by rw [HNC.out]; omega), ← HLL.out, ← HK0.out] at this
            have e1 : datK (l.take (k + 1)) = conK d.cons ++ datK (l.take k) := by
              rw [HTK.out]; unfold datK; rw [List.flatMap_append, conK_app]; simp
            have e2 : ((l.take (k + 1)).flatMap Dt.cons).length = n0 + j := by
              rw [HTK.out, List.flatMap_append, List.length_append, HN0.out]
              simp [HLL.out, HNC.out, hjm]
            rw [e1, e2]
            exact Lib.hid this
          clear hjm
          go_wp2_with fail
          go_roundw
          case rel => exact ⟨k + 1, by omega, by go_num, HCE, HBJ⟩
          case measure => simp [intOf]; omega
    · have hkm : k = m := by omega
      subst hkm
      have HCE : Hid (SC wo w.heap.size (2 * (l.flatMap Dt.cons).length) (consL l) []) := by
        have := HC.out
        rw [List.take_of_length_le (by rw [HM.out]; exact Nat.le_refl _)] at this
        exact CM.perm this fun s => ((datK_scL l).count_eq s).symm
      go_wp2_with fail
      go_ret
      exact ⟨_, rfl, Nat.le_refl _, HCE.out, HB.out⟩

end Go.Proofs.Ytjfogodfpmfhhaa

namespace Go.Proofs.Ytjfogodfpmfhhaa
open Go.RowKit Go.Maps
set_option linter.unusedVariables false
set_option linter.unusedSimpArgs false

def scE : Option Int → Int × Int
  | some q => (7, q)
  | none => (0, 0)
/-- What is wrong first with a program: the error and where. -/
def scopeE (p : Pg) : Int × Int := match checkL p.datas with
  | some q => (6, q)
  | none => scE (bindsAt (consL p.datas) p.binds)
theorem Cons.fits {l : List Dt} (h : ∀ d ∈ l, d.fit) : ∀ d ∈ l, ∀ c ∈ d.cons, c.s.length ≤ 1000000 := fun d hd c hc => (h d hd).2.2.2 c hc |>.1
theorem dupAt_next {l : List Bd} : ∀ {i : Nat} {x : Bd} {seen : List By}, l[i]? = some x → dupAt seen (l.drop i) = if decide (x.s ∉ seen) = true then dupAt (x.s :: seen) (l.drop (i + 1)) else some x.p := fun {i x seen} h => by rw [drop_cons h]; rfl
theorem bodiesAt_next {cs : List (By × Nat)} {bd : List By} {l : List Bd} {i : Nat} {x : Bd} (h : l[i]? = some x) : bodiesAt cs bd (l.drop i) = (x.body.wr cs bd).or (bodiesAt cs bd (l.drop (i + 1))) := by rw [drop_cons h]; rfl
theorem sumOf_drop {l : List Bd} {i : Nat} {x : Bd} (h : l[i]? = some x) : sumOf bdN (l.drop i) = x.body.nn + sumOf bdN (l.drop (i + 1)) := by rw [drop_cons h]; rfl
theorem sumOf_le (l : List Bd) (i : Nat) : sumOf bdN (l.drop i) ≤ sumOf bdN l := by
  have := sumOf_app bdN (l.take i) (l.drop i)
  rw [List.take_append_drop] at this; omega
theorem wx_any (x : Ex) : WX x := wx_all x.deep x (Nat.le_refl _)

set_option maxRecDepth 100000 in
set_option maxHeartbeats 16000000 in
theorem k_scope {S0 : Nat → Prop} (w : World) (P : Pg) (N : Nat) (v : Value) (hN6 : N ≤ 100000) (hP : PFit N P) (hv0 : IsV S0 w (pgC P) v) {E A : Int} (hE : scopeE P = (E, A)) :
    Calls Try.prog 30 #[v] w fun e w' => e = .returned (.tuple #[.int .i64 E, .int .i64 A]) ∧ Below w.heap.size w w' := by
  have hv : IsV (fun q => q < w.heap.size) w (pgC P) v := hv0.mono fun q h1 _ => h1
  obtain ⟨a1, a2, c1, c2, rfl, hd, hb⟩ := hv.pgp
  obtain ⟨hp1, hcl, hp2, hp3, hp4, hp5, hp6⟩ := hP
  have hcn : conN P.datas ≤ 900000 := by rw [conN_eq]; omega
  have hbm := hb.max_len
  obtain ⟨D, hD⟩ : ∃ D, P.datas = D := ⟨_, rfl⟩
  obtain ⟨L, hL⟩ : ∃ L, P.binds = L := ⟨_, rfl⟩
  unfold scopeE at hE
  rw [hD, hL] at hE
  rw [hD] at hd hp1 hp5 hp6 hcl hcn
  rw [hL] at hb hp2 hp3 hp4 hbm
  rw [hD, hL]
  clear hv hv0 hD hL
  obtain ⟨nd, hnd⟩ : ∃ nd, D.length = nd := ⟨_, rfl⟩
  obtain ⟨nb, hnb⟩ : ∃ nb, L.length = nb := ⟨_, rfl⟩
  have HCK : Hid (∀ w', Below w.heap.size w w' → Calls Try.prog 24 #[.slice a1 nd c1] w' fun e w'' => e = .returned (.tuple #[.int .i64 (chkE (checkL D)), .int .i64 ((checkL D).getD 0)]) ∧ Below w'.heap.size w' w'') := fun w' hw => k_Check w' D a1 nd c1 hnd (by omega) hp1 hcn (by have := hd.under hw; rwa [hnd] at this ⊢) rfl
  have HDC : Hid (∀ w', Below w.heap.size w w' → Calls Try.prog 62 #[.slice a1 nd c1] w' fun e w'' => ∃ b, e = .returned (.map (some b)) ∧ w'.heap.size ≤ b ∧ SC w'' b (2 * (D.flatMap Dt.cons).length) (consL D) [] ∧ Below w'.heap.size w' w'') := fun w' hw => k_declared w' D a1 nd c1 hnd (fun d h1 c h2 => ⟨(Cons.fits hp1 d h1 c h2), hcl d h1 c h2⟩) (by omega) (by have := hd.under hw; rwa [hnd] at this ⊢)
  have HB := Lib.hid hb
  have HP2 := Lib.hid hp2
  have HP3 := Lib.hid hp3
  have HNB := Lib.hid hnb
  have hncs : (consL D).length ≤ N := by
    refine Nat.le_trans (Nat.le_of_eq ?_) hp6
    unfold consL
    induction D with
    | nil => rfl
    | cons d r ih => simp [List.flatMap_cons]
  obtain ⟨nc, hnc⟩ : ∃ nc, (D.flatMap Dt.cons).length = nc := ⟨_, rfl⟩
  obtain ⟨CS, hCS⟩ : ∃ CS, consL D = CS := ⟨_, rfl⟩
  rw [hnc, hCS] at HDC
  rw [hCS] at hE hncs
  rw [hnc] at hp6
  rw [hnd, hnb]
  rw [hnb] at hp4 hbm
  have HBX0 := Lib.hid (Box.new w 28 [.slice a1 nd c1, .slice a2 nb c2])
  have HB0 : Hid (Below w.heap.size w (w.alloc (.cells #[.slice a1 nd c1, .slice a2 nb c2] 28))) := (Below.refl _ w).alloc (Nat.le_refl _) _
  cases hck : checkL D with
  | some q =>
    rw [hck] at hE HCK
    obtain ⟨rfl, rfl⟩ : E = 6 ∧ A = q := by simpa [eq_comm] using hE
    clear hE hck hd hb hp1 hp2 hp3 hcl hcn hCS hnc
    go_enter Try.func30, Try.ntmps30
    go_wp2_with (go_at_call 24; refine (HCK.out _ HB0.out).mono ?_; rintro e w1 ⟨rfl, hb1⟩; have HB1 := Lib.hid (HB0.out.trans (hb1.mono HB0.out.size)); clear hb1)
    refine bodyPost_ret (v := .tuple #[.int .i64 6, .int .i64 A]) (by simp only [results, Try.results30]; go_simp <;> rfl) rfl ⟨rfl, HB1.out⟩
  | none =>
    rw [hck] at hE HCK
    have hE2 : scE (bindsAt CS L) = (E, A) := hE
    unfold bindsAt at hE2
    obtain ⟨Rd, hRd⟩ : ∃ Rd, dupAt [] L = Rd := ⟨_, rfl⟩
    obtain ⟨Rb, hRb⟩ : ∃ Rb, bodiesAt CS (L.map Bd.s) L = Rb := ⟨_, rfl⟩
    rw [hRd, hRb] at hE2
    have HE0 := Lib.hid hE2
    have HRD : Hid (dupAt ((L.take 0).map Bd.s).reverse (L.drop 0) = Rd) := by show _ = _; simpa using hRd
    have HRBo := Lib.hid hRb
    clear hE hE2 hck hd hb hp1 hp2 hp3 hcl hcn hCS hnc hRd hRb
    go_enter Try.func30, Try.ntmps30
    go_wp2_with (first
      | (go_at_call 24; refine (HCK.out _ HB0.out).mono ?_; rintro e w1 ⟨rfl, hb1⟩; have HB1 := Lib.hid (HB0.out.trans (hb1.mono HB0.out.size)); have hy := HBX0.out.below hb1; obtain ⟨_, _, _, _⟩ := two_cells hy; have hl1 := hy.lt; have HY1 := Lib.hid hy; clear hb1 hy)
      | (go_at_call 62; refine (HDC.out _ HB1.out).mono ?_; rintro e w2 ⟨b, rfl, hbs, hs2, hb2⟩; have HB2 := Lib.hid (HB1.out.trans (hb2.mono HB1.out.size)); have hy := HY1.out.below hb2; obtain ⟨_, _, _, _⟩ := two_cells hy; have hl2 := hy.lt; have HY2 := Lib.hid hy; have HS2 := Lib.hid hs2; clear hb2 hy hs2 HCK HDC))
    have hbw : w.heap.size < b := by have := HY1.out.lt; omega
    have hncN : 2 * nc ≤ 200000 := by omega
    have HS0 : Hid (SC w2 b (2 * nc + 0) CS ((L.take 0).map Bd.s).reverse) := HS2
    clear HS2 HY1 HB1 HBX0 HB0
    go_loopw [29] (fun iv wr => ∃ i : Nat, i ≤ nb ∧ iv = .int .i64 (i : Int) ∧ Hid (dupAt ((L.take i).map Bd.s).reverse (L.drop i) = Rd) ∧ Hid (SC wr b (2 * nc + i) CS ((L.take i).map Bd.s).reverse) ∧ Hid (Box wr w.heap.size 28 [.slice a1 nd c1, .slice a2 nb c2]) ∧ Hid (Below w.heap.size w wr)) (fun iv _ => nb - (intOf iv).toNat)
    case atStart => exact ⟨0, Nat.zero_le _, rfl, HRD, HS0, HY2, HB2⟩
    case round =>
      clear HRD HS0 HY2 HB2
      obtain ⟨i, hi, rfl, HD, HS, HY, HBW⟩ := hrel
      obtain ⟨wo, rfl⟩ : ∃ wo, wo = wr := ⟨wr, rfl⟩
      by_cases hlt : i < nb
      · obtain ⟨x, hx⟩ : ∃ x, L[i]? = some x := ⟨_, List.getElem?_eq_getElem (by rw [HNB.out]; exact hlt)⟩
        have hxm := List.mem_of_getElem? hx
        have hfx := (HP2.out x hxm).1
        have hdn := dupAt_next (seen := ((L.take i).map Bd.s).reverse) hx
        have htk : ((L.take (i + 1)).map Bd.s).reverse = x.s :: ((L.take i).map Bd.s).reverse := by rw [take_snoc' hx]; simp
        have hKw := HB.out.under HBW.out
        obtain ⟨g, off, us, rfl, hg, hxv, hc⟩ := hKw.elem bdC_len hx
        obtain ⟨z0, z1, z2, z3, z4, z5, z6, z7, z8, z9, hz9, _⟩ := hxv.bd
        obtain rfl := agg_inj hz9
        obtain ⟨zt, hzt⟩ : ∃ zt, strB z3 = zt := ⟨_, rfl⟩
        obtain ⟨zs, hzs⟩ : ∃ zs, strB x.s = zs := ⟨_, rfl⟩
        have q0 := hc 0 _ rfl
        have q1 := hc 1 _ rfl
        have q2 := hc 2 _ rfl
        have q3 := hc 3 _ rfl
        have q4 := hc 4 _ rfl
        have q5 := hc 5 _ rfl
        have q6 := hc 6 _ rfl
        have q7 := hc 7 _ rfl
        rw [← Nat.add_assoc] at q0 q1 q2 q3 q4 q5 q6 q7
        rw [Nat.add_zero] at q0
        have T1 : ∀ W, Sem.run Try.prog (Instr.indexAt 26 (.slice (some ⟨g, off, none⟩) nb c2) (.int .i64 (i : Int))) W = .ok (.pointer (some ⟨g, off + i * 8, none⟩)) W := fun W => by go_simp
        obtain ⟨SN, hSN⟩ : ∃ SN, ((L.take i).map Bd.s).reverse = SN := ⟨_, rfl⟩
        have hsl : SN.length = i := by rw [← hSN]; simp [List.length_take]; have := HNB.out; omega
        rw [hSN] at hdn htk HS HD
        have HE := Lib.hid (fun (w' : World) (hw : Below wo.heap.size wo w') => (HS.out.below hw).enterV hfx (by omega) (by omega) hzs)
        obtain ⟨r1, hr1⟩ : ∃ r1, decide (x.s ∉ SN) = r1 := ⟨_, rfl⟩
        rw [hr1] at HE
        have hd2 : (if r1 = true then dupAt (x.s :: SN) (L.drop (i + 1)) else some x.p) = Rd := by rw [← HD.out, hdn, hr1]
        rw [hzs] at q0
        rw [hzt] at q4
        have HTK := Lib.hid htk
        have HD2 := Lib.hid hd2
        have HBX := Lib.hid (Box.new wo 45 [.string zs, .int .i64 x.p, .int .i64 z0, .int .i64 z1, .string zt, .int .i64 z2, .slice z4 z6 z8, .slice z5 z7 z9])
        have HBa : Hid (Below wo.heap.size wo (wo.alloc (.cells #[.string zs, .int .i64 x.p, .int .i64 z0, .int .i64 z1, .string zt, .int .i64 z2, .slice z4 z6 z8, .slice z5 z7 z9] 45))) := (Below.refl _ wo).alloc (Nat.le_refl _) _
        have hbwo := HS.out.lt
        have hwwo := HBW.out.size
        clear hc hxv hx hxm hfx hdn htk hKw hzt hzs hSN hr1 hd2 HD
        cases r1 with
        | false =>
          have hRd : Rd = some x.p := HD2.out.symm
          have hEA := HE0.out
          rw [hRd] at hEA
          obtain ⟨rfl, rfl⟩ : E = 7 ∧ A = x.p := by simpa [eq_comm, scE] using hEA
          clear hEA hRd
          go_wp2_with (first
            | (go_at_call 64; refine (k_svar _ _).mono ?_; rintro e w3 ⟨rfl, hb3⟩; have HB3 := Lib.hid (HBa.out.trans (hb3.mono HBa.out.size)); have hy := HBX.out.below hb3; have HY3 := Lib.hid hy; clear hb3 hy)
            | (go_at_call 63; refine (HE.out _ HB3.out).mono ?_; rintro e w4 ⟨rfl, hs4, ho4⟩; have hy := ho4.box HY3.out (show ¬ (_ = b) by omega); have hc0 := hy.cell 0; have hc1 := hy.cell 1; have hyl := hy.lt; have HB4 : Hid (Below w.heap.size w w4) := (HBW.out.trans (HB3.out.mono HBW.out.size)).trans (ho4.below (Nat.le_trans HBW.out.size HB3.out.size) (fun q hq => by show ¬ (q = b); omega)); clear hs4 ho4 hy))
          go_quiet (fail)
          go_wp2_with fail
          refine bodyPost_ret (v := .tuple #[.int .i64 7, .int .i64 x.p]) (by simp only [results, Try.results30]; go_simp <;> rfl) rfl ?_
          exact ⟨rfl, below_drN HB4.out _⟩
        | true =>
          have HD3 : Hid (dupAt (x.s :: SN) (L.drop (i + 1)) = Rd) := HD2.out
          go_wp2_with (first
            | (go_at_call 64; refine (k_svar _ _).mono ?_; rintro e w3 ⟨rfl, hb3⟩; have HB3 := Lib.hid (HBa.out.trans (hb3.mono HBa.out.size)); clear hb3)
            | (go_at_call 63; refine (HE.out _ HB3.out).mono ?_; rintro e w4 ⟨rfl, hs4, ho4⟩; have HS4 := Lib.hid hs4; have HO4 : Hid (Out (fun q => q = b) wo w4) := (Out.of_below HB3.out).trans ho4; clear hs4 ho4))
          have HB4 : Hid (Below w.heap.size w w4) := HBW.out.trans (HO4.out.below HBW.out.size (fun q hq => by show ¬ (q = b); omega))
          have HY4 := Lib.hid (HO4.out.box HY.out (show ¬ (_ = b) by omega))
          go_roundw
          case rel => exact ⟨i + 1, by omega, by go_num, by rw [HTK.out]; exact HD3, by rw [HTK.out]; exact HS4, HY4, HB4⟩
          case measure => simp [intOf]; omega
      · have him : i = nb := by omega
        subst him
        have hRd : Rd = none := by
          have := HD.out
          rw [List.drop_of_length_le (by rw [HNB.out]; exact Nat.le_refl _)] at this
          exact this.symm
        have hSS : SC wo b (2 * nc + i) CS (L.map Bd.s) := by
          have := HS.out
          rw [List.take_of_length_le (by rw [HNB.out]; exact Nat.le_refl _)] at this
          exact this.perm (List.reverse_perm _)
        have hEA := HE0.out
        rw [hRd] at hEA
        have HE2 : Hid (scE Rb = (E, A)) := hEA
        have HR0 : Hid (bodiesAt CS (L.map Bd.s) (L.drop 0) = Rb) := by show _ = _; simpa using HRBo.out
        have hlm : (L.map Bd.s).length = i := by rw [List.length_map]; exact HNB.out
        obtain ⟨BD, hBD⟩ : ∃ BD, L.map Bd.s = BD := ⟨_, rfl⟩
        rw [hBD] at HR0 hSS hlm
        have hsum := HP3.out
        obtain ⟨TN, hTN⟩ : ∃ TN, 2 * nc + i + 2 * sumOf bdN L = TN := ⟨_, rfl⟩
        have hTNl : TN ≤ 2000000 := by omega
        have HT0 : Hid (2 * nc + i + 2 * sumOf bdN (L.drop 0) ≤ TN) := by show _ ≤ _; simpa using Nat.le_of_eq hTN
        have HSS := Lib.hid hSS
        obtain ⟨_, _, _, _⟩ := two_cells HY.out
        have hyl := HY.out.lt
        have hbwo := HS.out.lt
        have hnn : ∀ x ∈ L, x.body.nn ≤ 1000000 := fun x hx => by
          obtain ⟨j, hj, rfl⟩ := List.mem_iff_getElem.1 hx
          have h1 := sumOf_drop (List.getElem?_eq_getElem hj)
          have h2 := sumOf_le L j
          omega
        have HNN := Lib.hid hnn
        clear hEA hRd hSS hBD hTN HD HS HY HE0 HRBo hlt hsum hnn
        go_wp2_with fail
        go_loopw [45] (fun iv wr => ∃ j nk : Nat, j ≤ i ∧ iv = .int .i64 (j : Int) ∧ Hid (bodiesAt CS BD (L.drop j) = Rb) ∧ Hid (nk + 2 * sumOf bdN (L.drop j) ≤ TN) ∧ Hid (SC wr b nk CS BD) ∧ Hid (Below w.heap.size w wr)) (fun iv _ => i - (intOf iv).toNat)
        case atStart => exact ⟨0, 2 * nc + i, Nat.zero_le _, rfl, HR0, HT0, HSS, HBW⟩
        case round =>
          rename World => wr
          clear HR0 HT0 HSS HBW
          obtain ⟨j, nk, hj, rfl, HR, HT, HS, HBW⟩ := hrel
          obtain ⟨wi, rfl⟩ : ∃ wi, wi = wr := ⟨wr, rfl⟩
          by_cases hlt : j < i
          · obtain ⟨x, hx⟩ : ∃ x, L[j]? = some x := ⟨_, List.getElem?_eq_getElem (by rw [HNB.out]; exact hlt)⟩
            have hxm := List.mem_of_getElem? hx
            have hfx := (HP2.out x hxm).2
            have hxn := HNN.out x hxm
            have hsd := sumOf_drop hx
            have hbn := bodiesAt_next (cs := CS) (bd := BD) hx
            have hKw := HB.out.under HBW.out
            obtain ⟨g, off, us, rfl, hg, hxv, hc⟩ := hKw.elem bdC_len hx
            obtain ⟨z0, z1, z2, z3, z4, z5, z6, z7, z8, z9, hz9, hbv⟩ := hxv.bd
            obtain rfl := agg_inj hz9
            obtain ⟨zt, hzt⟩ : ∃ zt, strB z3 = zt := ⟨_, rfl⟩
            obtain ⟨zs, hzs⟩ : ∃ zs, strB x.s = zs := ⟨_, rfl⟩
            have q0 := hc 0 _ rfl
            have q1 := hc 1 _ rfl
            have q2 := hc 2 _ rfl
            have q3 := hc 3 _ rfl
            have q4 := hc 4 _ rfl
            have q5 := hc 5 _ rfl
            have q6 := hc 6 _ rfl
            have q7 := hc 7 _ rfl
            rw [← Nat.add_assoc] at q0 q1 q2 q3 q4 q5 q6 q7
            rw [Nat.add_zero] at q0
            have T1 : ∀ W, Sem.run Try.prog (Instr.indexAt 26 (.slice (some ⟨g, off, none⟩) i c2) (.int .i64 (j : Int))) W = .ok (.pointer (some ⟨g, off + j * 8, none⟩)) W := fun W => by go_simp
            obtain ⟨y1, hy1⟩ : ∃ y1, x.body.wr CS BD = y1 := ⟨_, rfl⟩
            rw [hy1] at hbn
            have HRN : Hid (y1.or (bodiesAt CS BD (L.drop (j + 1))) = Rb) := by show _ = _; rw [← hbn]; exact HR.out
            obtain ⟨qb, hqb⟩ : ∃ qb, y1.isSome = qb := ⟨_, rfl⟩
            obtain ⟨qa, hqa⟩ : ∃ qa, atI y1 = qa := ⟨_, rfl⟩
            have HW : Hid (∀ w', Below wi.heap.size wi w' → Calls Try.prog 65 #[.map (some b), .agg #[.int .i64 z0, .int .i64 z1, .string zt, .int .i64 z2, .slice z4 z6 z8, .slice z5 z7 z9]] w' fun e w'' => ∃ n', e = .returned (.tuple #[.int .i64 qa, .bool qb]) ∧ n' ≤ nk + 2 * x.body.nn ∧ SC w'' b n' CS BD ∧ Out (fun q => q = b) w' w'') := fun w' hw => by
              have := wx_any x.body b nk CS BD (fun q => q < w.heap.size) _ w' hfx (HS.out.below hw) (by have := hbv.under hw; rwa [hzt] at this) (fun q _ h => by omega) (by have := HT.out; omega) (by omega)
              rw [hy1, hqb, hqa] at this
              exact this
            have HQB := Lib.hid hqb
            have HQA := Lib.hid hqa
            have HSD := Lib.hid hsd
            rw [hzs] at q0
            rw [hzt] at q4
            have HBa : Hid (Below wi.heap.size wi (wi.alloc (.cells #[.string zs, .int .i64 x.p, .int .i64 z0, .int .i64 z1, .string zt, .int .i64 z2, .slice z4 z6 z8, .slice z5 z7 z9] 45))) := (Below.refl _ wi).alloc (Nat.le_refl _) _
            have hwwi := HBW.out.size
            clear hc hxv hbv hx hxm hfx hxn hsd hbn hKw hzt hzs hy1 hqb hqa HR
            have hout : ∀ (w6 : World), Out (fun q => q = b) (wi.alloc (.cells #[.string zs, .int .i64 x.p, .int .i64 z0, .int .i64 z1, .string zt, .int .i64 z2, .slice z4 z6 z8, .slice z5 z7 z9] 45)) w6 → Below w.heap.size w w6 := fun w6 ho => (HBW.out.trans (HBa.out.mono HBW.out.size)).trans (ho.below (Nat.le_trans HBW.out.size HBa.out.size) (fun q hq => by show ¬ (q = b); omega))
            have HOUT := Lib.hid hout
            clear hout
            cases qb with
            | true =>
              have hyr : y1 = Rb := by
                have h1 := HQB.out
                have h2 := HRN.out
                cases y1 with
                | none => cases h1
                | some q => exact h2
              have hEA : E = 7 ∧ A = qa := by
                have h1 := HE2.out
                have h2 := HQA.out
                have h3 := HQB.out
                rw [← hyr] at h1
                cases y1 with
                | none => cases h3
                | some q =>
                  have h4 : q = qa := h2
                  subst h4
                  simpa [eq_comm, scE] using h1
              obtain ⟨rfl, rfl⟩ := hEA
              clear hyr
              go_wp2_with (go_at_call 65; (with_reducible refine (HW.out _ HBa.out).mono ?_); rintro e w6 ⟨n6, rfl, hn6, hs6, ho6⟩; have HB6 := Lib.hid (HOUT.out _ ho6); clear hn6 hs6 ho6)
              refine bodyPost_ret (v := .tuple #[.int .i64 7, .int .i64 A]) (by simp only [results, Try.results30]; go_simp <;> rfl) rfl ?_
              exact ⟨rfl, HB6.out⟩
            | false =>
              have HRN2 : Hid (bodiesAt CS BD (L.drop (j + 1)) = Rb) := by
                have h1 := HQB.out
                have h2 := HRN.out
                cases y1 with
                | none => exact h2
                | some q => cases h1
              go_wp2_with (go_at_call 65; (with_reducible refine (HW.out _ HBa.out).mono ?_); rintro e w6 ⟨n6, rfl, hn6, hs6, ho6⟩; have HB6 := Lib.hid (HOUT.out _ ho6); have HN6 := Lib.hid hn6; have HS6 := Lib.hid hs6; clear hn6 hs6 ho6)
              have HT2 : Hid (n6 + 2 * sumOf bdN (L.drop (j + 1)) ≤ TN) := by show _ ≤ _; have := HN6.out; have := HT.out; have := HSD.out; omega
              go_roundw
              case rel => exact ⟨j + 1, n6, by omega, by go_num, HRN2, HT2, HS6, HB6⟩
              case measure => simp [intOf]; omega
          · have hji : j = i := by omega
            have hRb : Rb = none := by
              rw [← HR.out, List.drop_of_length_le (by rw [HNB.out]; omega)]; rfl
            have hEA := HE2.out
            rw [hRb] at hEA
            obtain ⟨rfl, rfl⟩ : E = 0 ∧ A = 0 := by simpa [eq_comm, scE] using hEA
            clear hEA hRb hji
            go_wp2_with fail
            refine bodyPost_ret (v := .tuple #[.int .i64 0, .int .i64 0]) (by simp only [results, Try.results30]; go_simp <;> rfl) rfl ?_
            exact ⟨rfl, HBW.out⟩

end Go.Proofs.Ytjfogodfpmfhhaa

namespace Go.Proofs.Ytjfogodfpmfhhaa
open Go.RowKit Go.Maps
set_option linter.unusedVariables false
set_option linter.unusedSimpArgs false

theorem lex_tf {s : By} {ts : List Tk} (hs : s.length ≤ 65536) (h : lexL s 0 = .ok ts) : TF ts := by
  have h1 := lexL_len h
  have h2 := lexL_fit (by omega) h
  exact ⟨by omega, fun t ht => (h2 t ht).2.2.1⟩
theorem PFit.mono {N M : Nat} {p : Pg} (h : PFit N p) (hm : N ≤ M) : PFit M p := ⟨h.datas, h.args, h.binds, by have := h.nn; omega, by have := h.nb; omega, by have := h.nd; omega, by have := h.nc; omega⟩
theorem parse_fit (s : By) (hs : s.length ≤ 65536) : PFit 65536 (parseL s).p := by
  unfold parseL
  cases hx : lexL s 0 with
  | inl i => exact PFit.empty _
  | inr ts =>
    have ht := lex_tf hs hx
    have hl := lexL_len hx
    have h := programF_fit s.length (ts.length + 1) ⟨ts, false, 0⟩ ht
    show PFit 65536 (parseTs s.length ts).p
    unfold parseTs
    dsimp only
    split
    · exact PFit.empty _
    · split
      · exact h.mono (by show ts.length ≤ _; omega)
      · exact PFit.empty _
/-- What check tells of a text. -/
def chkL (s : By) : Int × Int := if (parseL s).e ≠ 0 then (-1, 0) else scopeE (parseL s).p

set_option maxRecDepth 100000 in
set_option maxHeartbeats 4000000 in
theorem k_check (s : By) (w : World) (hs : s.length ≤ 65536) {E A : Int} (hE : chkL s = (E, A)) {z : ByteArray} (hz : strB s = z) :
    Calls Try.prog 33 #[.string z] w fun e w' => e = .returned (.tuple #[.int .i64 E, .int .i64 A]) ∧ Below w.heap.size w w' := by
  have hf := parse_fit s hs
  obtain ⟨O, hO⟩ : ∃ O, parseL s = O := ⟨_, rfl⟩
  have HY := Lib.hid (fun w => y_Parse s w hs hO)
  rw [hz] at HY
  unfold chkL at hE
  rw [hO] at hE hf
  obtain ⟨e0, he0⟩ : ∃ e0 : Int, (O.e : Int) = e0 := ⟨_, rfl⟩
  rw [he0] at HY
  by_cases h0 : O.e = 0
  · rw [if_neg (by simp [h0])] at hE
    have hz0 : (e0 != 0) = false := by rw [← he0, h0]; rfl
    have HS := Lib.hid (fun (S0 : Nat → Prop) (w : World) (v : Value) (hv : IsV S0 w (pgC O.p) v) => k_scope w O.p 65536 v (by omega) hf hv hE)
    clear hf hO hE h0 he0
    go_enter Try.func33, Try.ntmps33
    go_wp2_with (first
      | (go_at_call 22; (with_reducible refine (HY.out _).mono ?_); rintro e w3 ⟨a, b, rfl, hv3, hb3⟩; have hv4 := hv3; obtain ⟨a1, a2, c1, c2, hab, _, _⟩ := hv3.pgp; simp only [Value.agg.injEq, Array.mk.injEq, List.cons.injEq, and_true] at hab; obtain ⟨rfl, rfl⟩ := hab; have HV := Lib.hid hv4; have HB3 := Lib.hid hb3; clear hv3 hv4 hb3 HY)
      | (go_at_call 30; (with_reducible refine (HS.out _ _ _ (HV.out.under ((Below.refl _ w3).alloc (Nat.le_refl _) _))).mono ?_); rintro e w4 ⟨rfl, hb4⟩; have HB4 := Lib.hid ((HB3.out.alloc HB3.out.size (.cells #[.slice a1 O.p.datas.length c1, .slice a2 O.p.binds.length c2, .int .i64 e0, .int .i64 O.at_] 49)).trans (hb4.mono (by have := HB3.out.size; simp; omega))); clear hb4)
      | (go_at_call 17; refine (num_any _ _).mono ?_; rintro e w' ⟨rfl, hw⟩; have hw := hw.symm; subst hw))
    refine bodyPost_ret (v := .tuple #[.int .i64 E, .int .i64 A]) (by simp only [results, Try.results33]; go_simp <;> rfl) rfl ⟨rfl, HB4.out⟩
  · rw [if_pos h0] at hE
    obtain ⟨rfl, rfl⟩ : E = -1 ∧ A = 0 := by simpa [eq_comm] using hE
    have hz0 : (e0 != 0) = true := by rw [← he0]; simp; omega
    clear hf hO hE h0 he0
    go_enter Try.func33, Try.ntmps33
    go_wp2_with (go_at_call 22; (with_reducible refine (HY.out _).mono ?_); rintro e w3 ⟨a, b, rfl, hv3, hb3⟩; obtain ⟨a1, a2, c1, c2, hab, _, _⟩ := hv3.pgp; simp only [Value.agg.injEq, Array.mk.injEq, List.cons.injEq, and_true] at hab; obtain ⟨rfl, rfl⟩ := hab; have HB3 := Lib.hid hb3; clear hv3 hb3 HY)
    refine bodyPost_ret (v := .tuple #[.int .i64 (-1), .int .i64 0]) (by simp only [results, Try.results33]; go_simp <;> rfl) rfl ⟨rfl, HB3.out.alloc HB3.out.size _⟩

def headsT : By := [100, 97, 116, 97, 32, 76, 105, 115, 116, 32, 97, 32, 61, 32, 78, 105, 108, 32, 124, 32, 67, 111, 110, 115, 32, 97, 32, 40, 76, 105, 115, 116, 32, 97, 41, 59, 10, 100, 97, 116, 97, 32, 79, 112, 116, 32, 97, 32, 61, 32, 78, 111, 110, 101, 32, 124, 32, 83, 111, 109, 101, 32, 97, 59, 10, 100, 97, 116, 97, 32, 70, 32, 97, 32, 98, 32, 61, 32, 79, 100, 100, 32, 40, 97, 32, 45, 62, 32, 98, 41, 32, 40, 97, 44, 32, 73, 110, 116, 41, 59, 10]
set_option maxHeartbeats 2000000 in
theorem k_heads (w : World) {z : ByteArray} (hz : strB headsT = z) : Calls Try.prog 32 #[] w fun e w' => e = .returned (.string z) ∧ Below w.heap.size w w' := by
  subst hz
  go_enter Try.func32, Try.ntmps32
  go_wp2_with fail
  go_ret
  exact ⟨rfl, Below.refl _ _⟩

theorem aw13_a : scopeE ⟨[], []⟩ = (0, 0) := by decide +kernel
theorem aw13_b : chkL [108, 101, 116, 32, 102, 32, 61, 32, 103, 59] = (7, 8) := by decide +kernel
set_option maxRecDepth 100000 in
set_option maxHeartbeats 4000000 in
theorem s_awake (w : World) : Calls Try.prog 29 #[] w fun e w' => e = .returned (.bool true) ∧ Below w.heap.size w w' := by
  have H1 := Lib.hid (fun (w' : World) => k_scope (S0 := fun _ => True) w' ⟨[], []⟩ 0 (.agg #[.slice none 0 0, .slice none 0 0]) (by omega) (PFit.empty _) (IsV.no_pg _ _) aw13_a)
  have H2 := Lib.hid (fun (w' : World) => k_check [108, 101, 116, 32, 102, 32, 61, 32, 103, 59] w' (by decide) aw13_b (z := ⟨#[108, 101, 116, 32, 102, 32, 61, 32, 103, 59]⟩) rfl)
  go_enter Try.func29, Try.ntmps29
  go_wp2_with (first
    | (go_at_call 30; (with_reducible refine (H1.out _).mono ?_); rintro e w1 ⟨rfl, hb⟩; have HB1 := Lib.hid hb; clear hb)
    | (go_at_call 33; (with_reducible refine (H2.out _).mono ?_); rintro e w2 ⟨rfl, hb⟩; have HB2 := Lib.hid hb; clear hb)
    | (go_at_call 17; refine (num_any _ _).mono ?_; rintro e w' ⟨rfl, hw⟩; have hw := hw.symm; subst hw))
  go_ret
  exact ⟨rfl, HB1.out.trans (HB2.out.mono HB1.out.size)⟩

end Go.Proofs.Ytjfogodfpmfhhaa

namespace Go.Proofs.Ytjfogodfpmfhhaa
open Go.RowKit
theorem below_nextx {B : Nat} {w w' w'' : World} (h : Below B w w') (hb : Below w'.heap.size w' w'') (hB : B ≤ w.heap.size) : Below B w w'' := h.trans (hb.mono (Nat.le_trans hB h.size))

end Go.Proofs.Ytjfogodfpmfhhaa
