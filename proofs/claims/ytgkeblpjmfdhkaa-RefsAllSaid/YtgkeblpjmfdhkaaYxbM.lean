/- The document's parser: what the ways of expr have in common. -/
import Derived.Test.YtgkeblpjmfdhkaaYtupEM
import Derived.Test.YtgkeblpjmfdhkaaYatwM
import Derived.Test.YtgkeblpjmfdhkaaZFM
import Derived.Deep.DeepCutAuto
import Derived.Deep.CutRange
namespace Go.Proofs.Ytgkeblpjmfdhkaa
open Go.RowKit Go.Maps
set_option linter.unusedVariables false
set_option linter.unusedSimpArgs false

theorem ts_cons {σ : PS} (h : 0 < σ.ts.length) : ∃ t r, σ.ts = t :: r := by
  cases e : σ.ts with
  | nil => rw [e] at h; simp at h
  | cons t r => exact ⟨t, r, rfl⟩

theorem c_atom {c : Px} {n : Nat} {X : PS → Ex × PS} (HONE : ∀ (W0 W : World) (τ : PS), Cay c W0 W τ → τ.ts.length < n → Calls Try.prog 57 #[.pointer (some ⟨c.R, 0, none⟩)] W (TellsY c W0 W exC (X τ))) (hdec : Dec X)
    {W0 W : World} {σ : PS} (h : Cay c W0 W σ) (hlen : σ.ts.length ≤ n) {R : Ex × PS} (hR : atomF c.En X σ = R) :
    Calls Try.prog 105 #[.pointer (some ⟨c.R, 0, none⟩)] W (TellsY c W0 W exC R) := by
  cases h1 : σ.sees sName with
  | true => exact c_atom_name h h1 hR
  | false =>
    cases h2 : σ.sees sCon with
    | true => exact c_atom_con h h2 hR
    | false =>
      cases h3 : σ.sees sInt with
      | true => exact c_atom_int h h3 hR
      | false =>
        cases h4 : σ.sees (sW tTrue) with
        | true => exact c_atom_true h h4 hR
        | false =>
          cases h5 : σ.sees (sW tFalse) with
          | true => exact c_atom_false h h5 hR
          | false =>
            cases h6 : σ.sees (sS tLpar) with
            | true =>
              refine c_atom_tup HONE hdec h hlen h6 (R := R) ?_
              have h7 : σ.next = sS tLpar := of_decide_eq_true h6
              rw [← hR]
              unfold atomF
              rw [h7, if_neg (by decide), if_pos (by decide)]
            | false =>
              have h8 : σ.seesAtom = false := by rw [atom_sees]; simp [h1, h2, h3, h4, h5, h6]
              refine c_atom_no h h8 ?_
              have h9 := h8
              unfold PS.seesAtom at h9
              rw [Bool.or_eq_false_iff] at h9
              rw [← hR]
              unfold atomF
              rw [if_neg (by rw [h9.1]; decide), if_neg (of_decide_eq_false h9.2)]
/-- What is not stopped behind reading was not ahead of it. -/
def Keeps {A : Type} (X : PS → A × PS) : Prop := ∀ τ, (X τ).2.st = false → τ.st = false
theorem rowsL_st {A : Type} {sep : Srt} {most : Nat} {one : PS → A × PS} (hk : Keeps one) : ∀ (f : Nat) (l : List A) (τ : PS), (rowsL sep most one f l τ).2.st = false → τ.st = false
  | 0, _, _, h => h
  | f + 1, l, τ, h => by
    unfold rowsL at h
    split at h
    · exact hk τ.tail (rowsL_st hk f _ _ h)
    · exact h
theorem stop_keeps (En : Nat) (σ : PS) (h : (σ.stop En).st = false) : σ.st = false := by
  rw [stop_st] at h; cases h
theorem bracketF_st {A : Type} {En : Nat} {one : PS → A × PS} (hk : Keeps one) {σ : PS} (h : (bracketF En one σ).2.st = false) : σ.st = false :=
  PS.take_st (hk _ (rowsL_st hk _ _ _ (PS.take_st h)))
theorem atomF_st {En : Nat} {X : PS → Ex × PS} (hk : Keeps X) {σ : PS} (h : (atomF En X σ).2.st = false) : σ.st = false := by
  unfold atomF at h
  split at h
  · exact h
  · split at h
    · exact bracketF_st hk h
    · exact stop_keeps _ _ h
theorem appL_st {En : Nat} {X : PS → Ex × PS} (hk : Keeps X) : ∀ (f : Nat) (e : Ex) (τ : PS), (appL En X f e τ).2.st = false → τ.st = false
  | 0, _, _, h => h
  | f + 1, e, τ, h => by
    unfold appL at h
    split at h
    · exact atomF_st hk (appL_st hk f _ _ h)
    · exact h
theorem bindF_st {En : Nat} {X : PS → Ex × PS} (hk : Keeps X) {σ : PS} (h : (bindF En X σ).2.st = false) : σ.st = false := PS.take_st (show (σ.take En sName).2.names.2.st = false from PS.take_st (hk _ h))
theorem altF_st {En : Nat} {X : PS → Ex × PS} (hk : Keeps X) : Keeps (altF En X) := fun σ h => PS.take_st (show (σ.take En sCon).2.names.2.st = false from PS.take_st (hk _ h))
theorem exprStep_st {En : Nat} {X : PS → Ex × PS} (hk : Keeps X) : Keeps (exprStep En X) := fun σ h => by
  unfold exprStep at h
  split at h
  · exact PS.take_st (PS.take_st (show ((σ.take En (sS tBack)).2.take En sName).2.names.2.st = false from PS.take_st (hk _ h)))
  · split at h
    · exact PS.take_st (bindF_st hk (PS.take_st (hk _ h)))
    · split at h
      · exact PS.take_st (hk _ (PS.take_st (hk _ (PS.take_st (hk _ h)))))
      · split at h
        · exact PS.take_st (hk _ (PS.take_st (PS.take_st (altF_st hk _ (rowsL_st (altF_st hk) _ _ _ (PS.take_st h))))))
        · exact atomF_st hk (appL_st hk _ _ _ h)
theorem exprF_st (En : Nat) : ∀ n, Keeps (exprF En n)
  | 0 => fun _ h => h
  | n + 1 => exprStep_st (exprF_st En n)
theorem appF_nil {En : Nat} {X : PS → Ex × PS} {σ : PS} (h : σ.ts = []) : appF En X σ = (Ex.zero, σ.stop En) := by
  have h1 : atomF En X σ = (Ex.zero, σ.stop En) := by
    have h2 : σ.next = ⟨0, []⟩ := by unfold PS.next; rw [h]
    unfold atomF; rw [h2, if_neg (by decide), if_neg (by decide)]
  have h3 : (σ.stop En).ts = [] := stop_lt (fun _ => h)
  unfold appF
  rw [h1]
  dsimp only
  rw [h3]
  rfl

theorem out_alloc {R : Nat} {w w' : World} {o : Obj} (h : Out (fun b => b = R) (w.alloc o).drew w') : Out (fun b => b = R) w w' :=
  (((Out.refl (fun b => b = R) w).alloc o).drew).trans h
/-- A new variable of six cells is written: the parser, trees stay. -/
theorem cay_six {c : Px} {W0 w : World} {σ : PS} (h : Cay c W0 w σ) {B : Nat} (hB : W0.heap.size ≤ B) (v0 v1 v2 v3 v4 v5 : Value) : Cay c W0 ((((((w.setCell ⟨B, 0, none⟩ v0).setCell ⟨B, 1, none⟩ v1).setCell ⟨B, 2, none⟩ v2).setCell ⟨B, 3, none⟩ v3).setCell ⟨B, 4, none⟩ v4).setCell ⟨B, 5, none⟩ v5) σ :=
  (((((h.put hB 0 v0).put hB 1 v1).put hB 2 v2).put hB 3 v3).put hB 4 v4).put hB 5 v5

end Go.Proofs.Ytgkeblpjmfdhkaa
