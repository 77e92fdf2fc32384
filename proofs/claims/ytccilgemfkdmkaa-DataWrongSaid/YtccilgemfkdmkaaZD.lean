/- Package parse's reader: tupleType. Package parse's reader: atomType. Package parse's reader: atomTypes. Package parse's reader: leftType. Package parse's reader: typ. -/
import Derived.Test.YtccilgemfkdmkaaZC
namespace Go.Proofs.Ytccilgemfkdmkaa
open Go.RowKit Go.Maps
set_option linter.unusedVariables false
set_option linter.unusedSimpArgs false

theorem tupTy_ne {l : List Ty} (h : l.length ≠ 1) : tupTy l = .mk 2 0 tComma l := by
  unfold tupTy
  split
  · exact absurd rfl h
  · rfl
/-- The only thing behind a slice, cell by cell. -/
theorem InC.only {S : Nat → Prop} {w : World} {k m cp : Nat} {l : List Cl} {a : Option Addr} (h : InC S w (.s 1 k l) (.slice a m cp)) : m = 1 ∧ ∃ (b off : Nat) (us : List Value), a = some ⟨b, off, none⟩ ∧ IsV S w l (.agg us.toArray) ∧ ∀ (i : Nat) (u : Value), us[i]? = some u → w.cell? ⟨b, off + i, none⟩ = some u := by
  obtain ⟨h1, h2 | ⟨b, off, us, h2, h3, h4, h5, h6⟩⟩ := h.at_
  · exact absurd h2 (by decide)
  · exact ⟨h1, b, off, us, h2, ⟨us, rfl, h5⟩, h6⟩
theorem agg_inj {us vs : List Value} (h : Value.agg us.toArray = .agg vs.toArray) : us = vs := by
  have := congrArg (fun v => v.cells.toList) h
  simpa [Value.cells] using this

set_option maxRecDepth 100000 in
set_option maxHeartbeats 4000000 in
theorem k_tupleType {c : Cx} {n : Nat} {T : PS → Ty × PS} (HONE : ∀ (W0 W : World) (τ : PS), Car c W0 W τ → τ.ts.length < n → Calls Try.prog 138 #[.pointer (some ⟨c.R, 0, none⟩)] W (Tells c W0 W tyC (T τ))) (hdec : Dec T)
    {W0 W : World} {σ : PS} (h : Car c W0 W σ) (hlen : σ.ts.length ≤ n) (hsee : σ.sees (sS tLpar) = true) {R : Ty × PS} (hR : tupleTypeF c.En T σ = R) :
    Calls Try.prog 134 #[.pointer (some ⟨c.R, 0, none⟩)] W (Tells c W0 W tyC R) := by
  have hR0 := h.rd.lt
  have hR1 : c.R < (W.alloc (.cells #[.int .i64 0, .int .i64 0, .string ⟨#[]⟩, .slice none 0 0] 63)).heap.size := by simp; omega
  obtain ⟨B, hB⟩ : ∃ B, bracketF c.En T σ = B := ⟨_, rfl⟩
  have HR : Hid (R = (tupTy B.1.1, B.2)) := by show _ = _; rw [← hR, ← hB]; rfl
  have H0 := Lib.hid h
  have H1 := Lib.hid (h.begin (.cells #[.int .i64 0, .int .i64 0, .string ⟨#[]⟩, .slice none 0 0] 63))
  have HB := Lib.hid hB
  have HONE2 := Lib.hid HONE
  have HD := Lib.hid hdec
  clear h hR hB HONE hdec
  by_cases h1 : B.1.1.length = 1
  · obtain ⟨x, hx⟩ : ∃ x, B.1.1 = [x] := List.length_eq_one_iff.1 h1
    have HX := Lib.hid hx
    clear hx h1
    go_enter Try.func134, Try.ntmps134
    go_wp2_with (go_at_call 137; refine (k_bracketT HONE2.out HD.out H1.out hlen hsee HB.out).mono ?_; clear H1; rw [HX.out]; rintro e w1 ⟨a1, cp1, rfl, hc1, H1, ho1⟩; rw [show ([x] : List Ty).flatMap tyC = tyC x by simp] at hc1; obtain ⟨_, b, off, us, rfl, hv1, hcs⟩ := hc1.only; obtain ⟨x0, x1, x2, x3, x4, x5, hx9⟩ := hv1.tys; obtain rfl := agg_inj hx9; have q0 := hcs 0 _ rfl; have q1 := hcs 1 _ rfl; have q2 := hcs 2 _ rfl; have q3 := hcs 3 _ rfl; rw [Nat.add_zero] at q0; clear hcs; have hb4 := H1.res hR0; obtain ⟨_, _, _, _⟩ := four_cells hb4; obtain ⟨_, _, _, _⟩ := four_frozen hb4; clear hb4; have HV := Lib.hid hv1; clear ho1 hv1 hc1; replace H1 := Lib.hid H1)
    refine bodyPost_ret (v := .agg #[.int .i64 x0, .int .i64 x1, .string (strB x2), .slice x3 x4 x5]) (by simp only [results, Try.results134]; go_simp <;> rfl) rfl ?_
    refine tells H0.out H1.out (by repeat (first | with_reducible exact Nb.refl _ _ | with_reducible refine Nb.set ?_ _ _ | with_reducible refine Nb.alloc ?_ _ | with_reducible refine Nb.drew ?_)) (by rw [HR.out]) ?_
    rw [HR.out]
    rw [HX.out]
    exact HV.out
  · have e1 : ((B.1.1.length : Int) == 1) = false := by simp; omega
    have HX := Lib.hid (tupTy_ne h1)
    clear h1
    go_enter Try.func134, Try.ntmps134
    go_wp2_with (go_at_call 137; refine (k_bracketT HONE2.out HD.out H1.out hlen hsee HB.out).mono ?_; clear H1; rintro e w1 ⟨a1, cp1, rfl, hc1, H1, ho1⟩; have hb4 := H1.res hR0; obtain ⟨_, _, _, _⟩ := four_cells hb4; obtain ⟨_, _, _, _⟩ := four_frozen hb4; clear hb4; have HC := Lib.hid hc1; clear ho1 hc1; replace H1 := Lib.hid H1)
    refine bodyPost_ret (v := .agg #[.int .i64 2, .int .i64 0, .string ⟨#[44]⟩, .slice a1 B.1.1.length cp1]) (by simp only [results, Try.results134]; go_simp <;> rfl) rfl ?_
    refine tells H0.out H1.out (by repeat (first | with_reducible exact Nb.refl _ _ | with_reducible refine Nb.set ?_ _ _ | with_reducible refine Nb.alloc ?_ _ | with_reducible refine Nb.drew ?_)) (by rw [HR.out]) ?_
    rw [HR.out]
    rw [HX.out]
    exact IsV.of_ty (s := tComma) (by rw [tysC_eq]; exact HC.out)

end Go.Proofs.Ytccilgemfkdmkaa

namespace Go.Proofs.Ytccilgemfkdmkaa
open Go.RowKit Go.Maps
set_option linter.unusedVariables false
set_option linter.unusedSimpArgs false

set_option maxRecDepth 100000 in
set_option maxHeartbeats 4000000 in
theorem k_atomType {c : Cx} {n : Nat} {T : PS → Ty × PS} (HONE : ∀ (W0 W : World) (τ : PS), Car c W0 W τ → τ.ts.length < n → Calls Try.prog 138 #[.pointer (some ⟨c.R, 0, none⟩)] W (Tells c W0 W tyC (T τ))) (hdec : Dec T)
    {W0 W : World} {σ : PS} (h : Car c W0 W σ) (hlen : σ.ts.length ≤ n) {R : Ty × PS} (hR : atomTypeF c.En c.vs T σ = R) :
    Calls Try.prog 127 #[.pointer (some ⟨c.R, 0, none⟩)] W (Tells c W0 W tyC R) := by
  have hfs := fld_s
  have hR0 := h.rd.lt
  have hR1 : c.R < (W.alloc (.cells #[.int .i64 0, .int .i64 0, .string ⟨#[]⟩, .slice none 0 0] 63)).heap.size := by simp; omega
  have H0 := Lib.hid h
  have H1 := Lib.hid (h.begin (.cells #[.int .i64 0, .int .i64 0, .string ⟨#[]⟩, .slice none 0 0] 63))
  have HONE2 := Lib.hid HONE
  have HD := Lib.hid hdec
  unfold atomTypeF at hR
  clear h HONE hdec
  cases hs1 : σ.sees sName with
  | true =>
    rw [if_pos hs1] at hR
    have HS1 := Lib.hid hs1
    have HR0 := Lib.hid hR
    have HR : Hid (R = R) := rfl
    clear hs1 hR
    go_enter Try.func127, Try.ntmps127
    go_wp2_with (first
      | (go_at_call 54; refine (k_some H1.out _).mono ?_; clear H1; rintro e w1 ⟨rfl, H1, ho1⟩; clear ho1; replace H1 := Lib.hid H1)
      | (go_at_call 57; refine (k_sees H1.out (sName) (sortFit (by decide) (by decide)) rfl rfl HS1.out).mono ?_; clear HS1; clear H1; rintro e w1 ⟨rfl, H1, ho1⟩; clear ho1; replace H1 := Lib.hid H1)
      | (go_at_call 133; refine (k_variable H1.out HR0.out).mono ?_; clear H1; rintro e w1 ⟨v1, rfl, hv1, H1, ho1⟩; obtain ⟨x0, x1, x2, x3, x4, x5, hx9⟩ := hv1.tys; subst hx9; have hb4 := H1.res hR0; obtain ⟨_, _, _, _⟩ := four_cells hb4; obtain ⟨_, _, _, _⟩ := four_frozen hb4; clear hb4; have HV := Lib.hid hv1; clear ho1 hv1 ; replace H1 := Lib.hid H1))
    refine bodyPost_ret (v := .agg #[.int .i64 x0, .int .i64 x1, .string (strB x2), .slice x3 x4 x5]) (by simp only [results, Try.results127]; go_simp <;> rfl) rfl ?_
    refine tells H0.out H1.out (by repeat (first | with_reducible exact Nb.refl _ _ | with_reducible refine Nb.set ?_ _ _ | with_reducible refine Nb.alloc ?_ _ | with_reducible refine Nb.drew ?_)) rfl ?_
    exact HV.out
  | false =>
    rw [if_neg (by rw [hs1]; decide)] at hR
    have HS1 := Lib.hid hs1
    clear hs1
    cases hs2 : σ.sees sCon with
    | true =>
      rw [if_pos hs2] at hR
      have HS2 := Lib.hid hs2
      obtain ⟨A, hA⟩ : ∃ A, σ.take c.En sCon = A := ⟨_, rfl⟩
      rw [hA] at hR
      have HR : Hid (R = (.mk 2 0 A.1.s [], A.2)) := Lib.hid hR.symm
      have HA := Lib.hid hA
      clear hs2 hR hA
      go_enter Try.func127, Try.ntmps127
      go_wp2_with (first
        | (go_at_call 54; refine (k_some H1.out _).mono ?_; clear H1; rintro e w1 ⟨rfl, H1, ho1⟩; clear ho1; replace H1 := Lib.hid H1)
        | (go_at_call 57; refine (k_sees H1.out (sName) (sortFit (by decide) (by decide)) rfl rfl HS1.out).mono ?_; clear HS1; clear H1; rintro e w1 ⟨rfl, H1, ho1⟩; clear ho1; replace H1 := Lib.hid H1)
        | (go_at_call 57; refine (k_sees H1.out (sCon) (sortFit (by decide) (by decide)) rfl rfl HS2.out).mono ?_; clear HS2; clear H1; rintro e w1 ⟨rfl, H1, ho1⟩; clear ho1; replace H1 := Lib.hid H1)
        | (go_at_call 59; refine (k_take H1.out (sCon) (sortFit (by decide) (by decide)) (by decide) rfl rfl HA.out).mono ?_; clear HA; clear H1; rintro e w1 ⟨rfl, H1, ho1⟩; have hb4 := H1.res hR0; obtain ⟨_, _, _, _⟩ := four_cells hb4; obtain ⟨_, _, _, _⟩ := four_frozen hb4; clear hb4; clear ho1; replace H1 := Lib.hid H1))
      refine bodyPost_ret (v := .agg #[.int .i64 2, .int .i64 0, .string (strB A.1.s), .slice none 0 0]) (by simp only [results, Try.results127]; go_simp <;> rfl) rfl ?_
      refine tells H0.out H1.out (by repeat (first | with_reducible exact Nb.refl _ _ | with_reducible refine Nb.set ?_ _ _ | with_reducible refine Nb.alloc ?_ _ | with_reducible refine Nb.drew ?_)) (by rw [HR.out]) ?_
      rw [HR.out]
      exact IsV.of_ty (.e _ _ _)
    | false =>
      rw [if_neg (by rw [hs2]; decide)] at hR
      have HS2 := Lib.hid hs2
      clear hs2
      cases hs3 : σ.sees (sS tLpar) with
      | true =>
        rw [if_pos hs3] at hR
        have HS3 := Lib.hid hs3
        have HS4 := Lib.hid hs3
        have HR0 := Lib.hid hR
        clear hs3 hR
        go_enter Try.func127, Try.ntmps127
        go_wp2_with (first
          | (go_at_call 54; refine (k_some H1.out _).mono ?_; clear H1; rintro e w1 ⟨rfl, H1, ho1⟩; clear ho1; replace H1 := Lib.hid H1)
          | (go_at_call 56; refine (k_sign H1.out _).mono ?_; clear H1; rintro e w1 ⟨rfl, H1, ho1⟩; clear ho1; replace H1 := Lib.hid H1)
          | (go_at_call 57; refine (k_sees H1.out (sName) (sortFit (by decide) (by decide)) rfl rfl HS1.out).mono ?_; clear HS1; clear H1; rintro e w1 ⟨rfl, H1, ho1⟩; clear ho1; replace H1 := Lib.hid H1)
          | (go_at_call 57; refine (k_sees H1.out (sCon) (sortFit (by decide) (by decide)) rfl rfl HS2.out).mono ?_; clear HS2; clear H1; rintro e w1 ⟨rfl, H1, ho1⟩; clear ho1; replace H1 := Lib.hid H1)
          | (go_at_call 57; refine (k_sees H1.out (sS tLpar) (sortFit (by decide) (by decide)) rfl rfl HS3.out).mono ?_; clear HS3; clear H1; rintro e w1 ⟨rfl, H1, ho1⟩; clear ho1; replace H1 := Lib.hid H1)
          | (go_at_call 134; refine (k_tupleType HONE2.out HD.out H1.out hlen HS4.out HR0.out).mono ?_; clear H1; rintro e w1 ⟨v1, rfl, hv1, H1, ho1⟩; obtain ⟨x0, x1, x2, x3, x4, x5, hx9⟩ := hv1.tys; subst hx9; have hb4 := H1.res hR0; obtain ⟨_, _, _, _⟩ := four_cells hb4; obtain ⟨_, _, _, _⟩ := four_frozen hb4; clear hb4; have HV := Lib.hid hv1; clear ho1 hv1 ; replace H1 := Lib.hid H1))
        refine bodyPost_ret (v := .agg #[.int .i64 x0, .int .i64 x1, .string (strB x2), .slice x3 x4 x5]) (by simp only [results, Try.results127]; go_simp <;> rfl) rfl ?_
        refine tells H0.out H1.out (by repeat (first | with_reducible exact Nb.refl _ _ | with_reducible refine Nb.set ?_ _ _ | with_reducible refine Nb.alloc ?_ _ | with_reducible refine Nb.drew ?_)) rfl ?_
        exact HV.out
      | false =>
        rw [if_neg (by rw [hs3]; decide)] at hR
        have HS3 := Lib.hid hs3
        have HR : Hid (R = (Ty.zero, σ.stop c.En)) := Lib.hid hR.symm
        clear hs3 hR
        go_enter Try.func127, Try.ntmps127
        go_wp2_with (first
          | (go_at_call 54; refine (k_some H1.out _).mono ?_; clear H1; rintro e w1 ⟨rfl, H1, ho1⟩; clear ho1; replace H1 := Lib.hid H1)
          | (go_at_call 56; refine (k_sign H1.out _).mono ?_; clear H1; rintro e w1 ⟨rfl, H1, ho1⟩; clear ho1; replace H1 := Lib.hid H1)
          | (go_at_call 57; refine (k_sees H1.out (sName) (sortFit (by decide) (by decide)) rfl rfl HS1.out).mono ?_; clear HS1; clear H1; rintro e w1 ⟨rfl, H1, ho1⟩; clear ho1; replace H1 := Lib.hid H1)
          | (go_at_call 57; refine (k_sees H1.out (sCon) (sortFit (by decide) (by decide)) rfl rfl HS2.out).mono ?_; clear HS2; clear H1; rintro e w1 ⟨rfl, H1, ho1⟩; clear ho1; replace H1 := Lib.hid H1)
          | (go_at_call 57; refine (k_sees H1.out (sS tLpar) (sortFit (by decide) (by decide)) rfl rfl HS3.out).mono ?_; clear HS3; clear H1; rintro e w1 ⟨rfl, H1, ho1⟩; clear ho1; replace H1 := Lib.hid H1)
          | (go_at_call 103; refine (k_stop H1.out).mono ?_; clear H1; rintro e w1 ⟨rfl, H1, ho1⟩;  have hb4 := H1.res hR0; obtain ⟨_, _, _, _⟩ := four_cells hb4; obtain ⟨_, _, _, _⟩ := four_frozen hb4; clear hb4; clear ho1; replace H1 := Lib.hid H1))
        refine bodyPost_ret (v := .agg #[.int .i64 0, .int .i64 0, .string ⟨#[]⟩, .slice none 0 0]) (by simp only [results, Try.results127]; go_simp <;> rfl) rfl ?_
        refine tells H0.out H1.out (by repeat (first | with_reducible exact Nb.refl _ _ | with_reducible refine Nb.set ?_ _ _ | with_reducible refine Nb.alloc ?_ _ | with_reducible refine Nb.drew ?_)) (by rw [HR.out]) ?_
        rw [HR.out]
        exact zero_ty _ _

end Go.Proofs.Ytccilgemfkdmkaa

namespace Go.Proofs.Ytccilgemfkdmkaa
open Go.RowKit Go.Maps
set_option linter.unusedVariables false
set_option linter.unusedSimpArgs false

theorem atomTypesL_go {En : Nat} {vs : List By} {T : PS → Ty × PS} {f : Nat} {l : List Ty} {τ : PS} (hf : τ.ts.length ≤ f) (h2 : τ.seesType = true) (hd : Dec T) :
    ∃ f', atomTypesL En vs T f l τ = atomTypesL En vs T f' (l ++ [(atomTypeF En vs T τ).1]) (atomTypeF En vs T τ).2 ∧ (atomTypeF En vs T τ).2.ts.length ≤ f' ∧ (atomTypeF En vs T τ).2.ts.length < τ.ts.length := by
  have h3 := atomTypeF_lt (En := En) (vs := vs) hd h2
  obtain ⟨f', rfl⟩ : ∃ f', f = f' + 1 := ⟨f - 1, by omega⟩
  exact ⟨f', by rw [atomTypesL, if_pos h2], by omega, h3⟩
theorem atomTypesL_end {En : Nat} {vs : List By} {T : PS → Ty × PS} {f : Nat} {l : List Ty} {τ : PS} (h : τ.seesType = false) : atomTypesL En vs T f l τ = (l, τ) := by
  cases f with
  | zero => rfl
  | succ f => rw [atomTypesL, if_neg (by rw [h]; decide)]

set_option maxRecDepth 100000 in
set_option maxHeartbeats 4000000 in
theorem k_atomTypes {c : Cx} {n : Nat} {T : PS → Ty × PS} (HONE : ∀ (W0 W : World) (τ : PS), Car c W0 W τ → τ.ts.length < n → Calls Try.prog 138 #[.pointer (some ⟨c.R, 0, none⟩)] W (Tells c W0 W tyC (T τ))) (hdec : Dec T)
    {W0 W : World} {σ : PS} (h : Car c W0 W σ) (hlen : σ.ts.length ≤ n) {R : List Ty × PS} (hR : atomTypesF c.En c.vs T σ = R) :
    Calls Try.prog 117 #[.pointer (some ⟨c.R, 0, none⟩)] W fun e w' => ∃ a cp, e = .returned (.slice a R.1.length cp) ∧ InC (New W0) w' (.s R.1.length 4 (tysC R.1)) (.slice a R.1.length cp) ∧ Car c W0 w' R.2 ∧ Out (fun b => b = c.R) W w' := by
  obtain ⟨i0, hi0, hz0, hz1, hz2⟩ := info_parts Try.zinfoT
  have H := Lib.hid h
  have hR1 := h.lt
  have hRW : c.R < W.heap.size := h.rd.lt
  have HONE2 := Lib.hid HONE
  have HRR : Hid (atomTypesL c.En c.vs T σ.ts.length [] σ = R) := Lib.hid hR
  have HDC := Lib.hid hdec
  have hlen6 := h.rd.len
  clear h HONE hR hdec
  go_enter Try.func117, Try.ntmps117
  go_wp2_with fail
  go_loopg [3] (σ.ts.length) (fun gn v wr => ∃ (l : List Ty) (τ : PS) (us : List Value) (f : Nat), Hid (Car c W0 wr τ) ∧ Hid (Out (fun b => b = c.R) W wr) ∧ Hid (GR W0 W.heap.size 63 4 wr v l.length (l.flatMap tyC) us) ∧ Hid (atomTypesL c.En c.vs T f l τ = R) ∧ gn = τ.ts.length ∧ τ.ts.length ≤ f ∧ l.length + τ.ts.length ≤ 1000000 ∧ τ.ts.length ≤ n)
  case atStart => exact ⟨[], σ, [], σ.ts.length, H, Out.refl _ _, GR.nil _ _ _ _ _, HRR, rfl, Nat.le_refl _, by simpa using hlen6, hlen⟩
  case round =>
    obtain ⟨l, τ, us, f, H1, HO, HG, HL, rfl, hf, hl, hn⟩ := hrel
    obtain ⟨va, vc, hv⟩ := HG.out.shape
    have HLO := Lib.hid HG.out.lt
    cases hs1 : τ.sees sName with
    | true =>
      have HS1 := Lib.hid hs1
      have hst : τ.seesType = true := by unfold PS.seesType; simp [hs1]
      obtain ⟨f', hf1, hf2, hf3⟩ := atomTypesL_go (En := c.En) (vs := c.vs) (l := l) hf hst HDC.out
      have HL2 : Hid (atomTypesL c.En c.vs T f' (l ++ [(atomTypeF c.En c.vs T τ).1]) (atomTypeF c.En c.vs T τ).2 = R) := by show _ = _; rw [← hf1]; exact HL.out
      have hon : (atomTypeF c.En c.vs T τ).2.ts.length ≤ n := by omega
      obtain ⟨L, hL⟩ : ∃ L, l.length = L := ⟨_, rfl⟩
      have HLL := Lib.hid hL
      rw [hL] at HG hl hv
      subst hv
      clear hL hf1 HL hst hs1
      go_wp2_with (first
        | (go_at_call 54; refine (k_some H1.out _).mono ?_; clear H1; rintro e w1 ⟨rfl, H1, ho1⟩; replace HO := Lib.hid (HO.out.trans ho1); replace HG := Lib.hid (HG.out.out ho1 hRW hR1); clear ho1; replace H1 := Lib.hid H1)
        | (go_at_call 57; refine (k_sees H1.out (sName) (sortFit (by decide) (by decide)) rfl rfl HS1.out).mono ?_; clear HS1; clear H1; rintro e w1 ⟨rfl, H1, ho1⟩; replace HO := Lib.hid (HO.out.trans ho1); replace HG := Lib.hid (HG.out.out ho1 hRW hR1); clear ho1; replace H1 := Lib.hid H1)
        | (go_at_call 127; have HQ4 := Lib.hid HO.out.size; refine (k_atomType (W0 := w1) HONE2.out HDC.out ⟨H1.out.rd, Out.refl _ _, H1.out.rd.lt⟩ hn rfl).mono ?_; rintro e w4 ⟨v1, rfl, hv1, hc4, ho1⟩; obtain ⟨z0, z1, z2, z3, z4, z5, hz9⟩ := hv1.tys; subst hz9; have HQ := Lib.hid HG.out.lt; have HV1 := Lib.hid hv1; replace H1 := Lib.hid (H1.out.next hc4.rd ho1); replace HO := Lib.hid (HO.out.trans ho1); replace HG := Lib.hid (HG.out.out ho1 hRW hR1); clear hc4 ho1 hv1)
        | (at_builtin; refine wpList_append_lies _ rfl _ _ 57 rfl W.heap.size 63 i0 (.agg #[.int .i64 0, .int .i64 0, .string ⟨#[]⟩, .slice none 0 0]) 4 56 Try.underlying57 hi0 hz0 hz1 hz2 rfl (by decide) _ L us rfl (HG.out.1.alloc _) ⟨w4.heap.size, 0, none⟩ 1 1 [.int .i64 z0, .int .i64 z1, .string (strB z2), .slice z3 z4 z5] rfl rfl (news_at (cs := [.int .i64 z0, .int .i64 z1, .string (strB z2), .slice z3 z4 z5]) rfl) (by simp [Value.oneCell']) (by decide) ?c3 ?c4 ?c5 _ rfl ?_))
      case c3 => unfold maxLen; omega
      case c4 => omega
      case c5 => have := HO.out.size; simp; omega
      intro g cap w9 hown9 hgrow hat hlt9
      have hcar := (H1.out.alloc (.cells #[.int .i64 z0, .int .i64 z1, .string (strB z2), .slice z3 z4 z5] 63)).grown H.out (HO.out.alloc _) hgrow fun q hq => (HLO.out q hq).1
      have HC9 := Lib.hid hcar.1
      have HO9 := Lib.hid hcar.2
      have HG9 := Lib.hid (HG.out.push (W1 := w1) (ds := tyC (atomTypeF c.En c.vs T τ).1) (vs := [.int .i64 z0, .int .i64 z1, .string (strB z2), .slice z3 z4 z5]) (by simpa [Value.cells] using HV1.out.cells) (fun q hq => (HQ.out q hq).2) (Nat.le_trans H.out.size HQ4.out) hown9 hgrow hat)
      clear hcar hgrow hat hlt9 hown9 H1 HO HG HV1 HQ
      go_wp2_with fail
      go_roundg (atomTypeF c.En c.vs T τ).2.ts.length
      case measure => exact hf3
      case rel => exact ⟨l ++ [(atomTypeF c.En c.vs T τ).1], (atomTypeF c.En c.vs T τ).2, _, f', HC9, HO9, by simpa [HLL.out, List.flatMap_append] using HG9, HL2, rfl, hf2, by simp [HLL.out]; omega, hon⟩
    | false =>
      have HS1 := Lib.hid hs1
      cases hs2 : τ.sees sCon with
      | true =>
        have HS2 := Lib.hid hs2
        have hst : τ.seesType = true := by unfold PS.seesType; simp [hs1, hs2]
        obtain ⟨f', hf1, hf2, hf3⟩ := atomTypesL_go (En := c.En) (vs := c.vs) (l := l) hf hst HDC.out
        have HL2 : Hid (atomTypesL c.En c.vs T f' (l ++ [(atomTypeF c.En c.vs T τ).1]) (atomTypeF c.En c.vs T τ).2 = R) := by show _ = _; rw [← hf1]; exact HL.out
        have hon : (atomTypeF c.En c.vs T τ).2.ts.length ≤ n := by omega
        obtain ⟨L, hL⟩ : ∃ L, l.length = L := ⟨_, rfl⟩
        have HLL := Lib.hid hL
        rw [hL] at HG hl hv
        subst hv
        clear hL hf1 HL hst hs1 hs2
        go_wp2_with (first
          | (go_at_call 54; refine (k_some H1.out _).mono ?_; clear H1; rintro e w1 ⟨rfl, H1, ho1⟩; replace HO := Lib.hid (HO.out.trans ho1); replace HG := Lib.hid (HG.out.out ho1 hRW hR1); clear ho1; replace H1 := Lib.hid H1)
          | (go_at_call 57; refine (k_sees H1.out (sName) (sortFit (by decide) (by decide)) rfl rfl HS1.out).mono ?_; clear HS1; clear H1; rintro e w1 ⟨rfl, H1, ho1⟩; replace HO := Lib.hid (HO.out.trans ho1); replace HG := Lib.hid (HG.out.out ho1 hRW hR1); clear ho1; replace H1 := Lib.hid H1)
          | (go_at_call 57; refine (k_sees H1.out (sCon) (sortFit (by decide) (by decide)) rfl rfl HS2.out).mono ?_; clear HS2; clear H1; rintro e w1 ⟨rfl, H1, ho1⟩; replace HO := Lib.hid (HO.out.trans ho1); replace HG := Lib.hid (HG.out.out ho1 hRW hR1); clear ho1; replace H1 := Lib.hid H1)
          | (go_at_call 127; have HQ4 := Lib.hid HO.out.size; refine (k_atomType (W0 := w1) HONE2.out HDC.out ⟨H1.out.rd, Out.refl _ _, H1.out.rd.lt⟩ hn rfl).mono ?_; rintro e w4 ⟨v1, rfl, hv1, hc4, ho1⟩; obtain ⟨z0, z1, z2, z3, z4, z5, hz9⟩ := hv1.tys; subst hz9; have HQ := Lib.hid HG.out.lt; have HV1 := Lib.hid hv1; replace H1 := Lib.hid (H1.out.next hc4.rd ho1); replace HO := Lib.hid (HO.out.trans ho1); replace HG := Lib.hid (HG.out.out ho1 hRW hR1); clear hc4 ho1 hv1)
          | (at_builtin; refine wpList_append_lies _ rfl _ _ 57 rfl W.heap.size 63 i0 (.agg #[.int .i64 0, .int .i64 0, .string ⟨#[]⟩, .slice none 0 0]) 4 56 Try.underlying57 hi0 hz0 hz1 hz2 rfl (by decide) _ L us rfl (HG.out.1.alloc _) ⟨w4.heap.size, 0, none⟩ 1 1 [.int .i64 z0, .int .i64 z1, .string (strB z2), .slice z3 z4 z5] rfl rfl (news_at (cs := [.int .i64 z0, .int .i64 z1, .string (strB z2), .slice z3 z4 z5]) rfl) (by simp [Value.oneCell']) (by decide) ?c3 ?c4 ?c5 _ rfl ?_))
        case c3 => unfold maxLen; omega
        case c4 => omega
        case c5 => have := HO.out.size; simp; omega
        intro g cap w9 hown9 hgrow hat hlt9
        have hcar := (H1.out.alloc (.cells #[.int .i64 z0, .int .i64 z1, .string (strB z2), .slice z3 z4 z5] 63)).grown H.out (HO.out.alloc _) hgrow fun q hq => (HLO.out q hq).1
        have HC9 := Lib.hid hcar.1
        have HO9 := Lib.hid hcar.2
        have HG9 := Lib.hid (HG.out.push (W1 := w1) (ds := tyC (atomTypeF c.En c.vs T τ).1) (vs := [.int .i64 z0, .int .i64 z1, .string (strB z2), .slice z3 z4 z5]) (by simpa [Value.cells] using HV1.out.cells) (fun q hq => (HQ.out q hq).2) (Nat.le_trans H.out.size HQ4.out) hown9 hgrow hat)
        clear hcar hgrow hat hlt9 hown9 H1 HO HG HV1 HQ
        go_wp2_with fail
        go_roundg (atomTypeF c.En c.vs T τ).2.ts.length
        case measure => exact hf3
        case rel => exact ⟨l ++ [(atomTypeF c.En c.vs T τ).1], (atomTypeF c.En c.vs T τ).2, _, f', HC9, HO9, by simpa [HLL.out, List.flatMap_append] using HG9, HL2, rfl, hf2, by simp [HLL.out]; omega, hon⟩
      | false =>
        have HS2 := Lib.hid hs2
        cases hs3 : τ.sees (sS tLpar) with
        | true =>
          have HS3 := Lib.hid hs3
          have hst : τ.seesType = true := by unfold PS.seesType; simp [hs1, hs2, hs3]
          obtain ⟨f', hf1, hf2, hf3⟩ := atomTypesL_go (En := c.En) (vs := c.vs) (l := l) hf hst HDC.out
          have HL2 : Hid (atomTypesL c.En c.vs T f' (l ++ [(atomTypeF c.En c.vs T τ).1]) (atomTypeF c.En c.vs T τ).2 = R) := by show _ = _; rw [← hf1]; exact HL.out
          have hon : (atomTypeF c.En c.vs T τ).2.ts.length ≤ n := by omega
          obtain ⟨L, hL⟩ : ∃ L, l.length = L := ⟨_, rfl⟩
          have HLL := Lib.hid hL
          rw [hL] at HG hl hv
          subst hv
          clear hL hf1 HL hst hs1 hs2 hs3
          go_wp2_with (first
            | (go_at_call 54; refine (k_some H1.out _).mono ?_; clear H1; rintro e w1 ⟨rfl, H1, ho1⟩; replace HO := Lib.hid (HO.out.trans ho1); replace HG := Lib.hid (HG.out.out ho1 hRW hR1); clear ho1; replace H1 := Lib.hid H1)
            | (go_at_call 56; refine (k_sign H1.out _).mono ?_; clear H1; rintro e w1 ⟨rfl, H1, ho1⟩; replace HO := Lib.hid (HO.out.trans ho1); replace HG := Lib.hid (HG.out.out ho1 hRW hR1); clear ho1; replace H1 := Lib.hid H1)
            | (go_at_call 57; refine (k_sees H1.out (sName) (sortFit (by decide) (by decide)) rfl rfl HS1.out).mono ?_; clear HS1; clear H1; rintro e w1 ⟨rfl, H1, ho1⟩; replace HO := Lib.hid (HO.out.trans ho1); replace HG := Lib.hid (HG.out.out ho1 hRW hR1); clear ho1; replace H1 := Lib.hid H1)
            | (go_at_call 57; refine (k_sees H1.out (sCon) (sortFit (by decide) (by decide)) rfl rfl HS2.out).mono ?_; clear HS2; clear H1; rintro e w1 ⟨rfl, H1, ho1⟩; replace HO := Lib.hid (HO.out.trans ho1); replace HG := Lib.hid (HG.out.out ho1 hRW hR1); clear ho1; replace H1 := Lib.hid H1)
            | (go_at_call 57; refine (k_sees H1.out (sS tLpar) (sortFit (by decide) (by decide)) rfl rfl HS3.out).mono ?_; clear HS3; clear H1; rintro e w1 ⟨rfl, H1, ho1⟩; replace HO := Lib.hid (HO.out.trans ho1); replace HG := Lib.hid (HG.out.out ho1 hRW hR1); clear ho1; replace H1 := Lib.hid H1)
            | (go_at_call 127; have HQ4 := Lib.hid HO.out.size; refine (k_atomType (W0 := w1) HONE2.out HDC.out ⟨H1.out.rd, Out.refl _ _, H1.out.rd.lt⟩ hn rfl).mono ?_; rintro e w4 ⟨v1, rfl, hv1, hc4, ho1⟩; obtain ⟨z0, z1, z2, z3, z4, z5, hz9⟩ := hv1.tys; subst hz9; have HQ := Lib.hid HG.out.lt; have HV1 := Lib.hid hv1; replace H1 := Lib.hid (H1.out.next hc4.rd ho1); replace HO := Lib.hid (HO.out.trans ho1); replace HG := Lib.hid (HG.out.out ho1 hRW hR1); clear hc4 ho1 hv1)
            | (at_builtin; refine wpList_append_lies _ rfl _ _ 57 rfl W.heap.size 63 i0 (.agg #[.int .i64 0, .int .i64 0, .string ⟨#[]⟩, .slice none 0 0]) 4 56 Try.underlying57 hi0 hz0 hz1 hz2 rfl (by decide) _ L us rfl (HG.out.1.alloc _) ⟨w4.heap.size, 0, none⟩ 1 1 [.int .i64 z0, .int .i64 z1, .string (strB z2), .slice z3 z4 z5] rfl rfl (news_at (cs := [.int .i64 z0, .int .i64 z1, .string (strB z2), .slice z3 z4 z5]) rfl) (by simp [Value.oneCell']) (by decide) ?c3 ?c4 ?c5 _ rfl ?_))
          case c3 => unfold maxLen; omega
          case c4 => omega
          case c5 => have := HO.out.size; simp; omega
          intro g cap w9 hown9 hgrow hat hlt9
          have hcar := (H1.out.alloc (.cells #[.int .i64 z0, .int .i64 z1, .string (strB z2), .slice z3 z4 z5] 63)).grown H.out (HO.out.alloc _) hgrow fun q hq => (HLO.out q hq).1
          have HC9 := Lib.hid hcar.1
          have HO9 := Lib.hid hcar.2
          have HG9 := Lib.hid (HG.out.push (W1 := w1) (ds := tyC (atomTypeF c.En c.vs T τ).1) (vs := [.int .i64 z0, .int .i64 z1, .string (strB z2), .slice z3 z4 z5]) (by simpa [Value.cells] using HV1.out.cells) (fun q hq => (HQ.out q hq).2) (Nat.le_trans H.out.size HQ4.out) hown9 hgrow hat)
          clear hcar hgrow hat hlt9 hown9 H1 HO HG HV1 HQ
          go_wp2_with fail
          go_roundg (atomTypeF c.En c.vs T τ).2.ts.length
          case measure => exact hf3
          case rel => exact ⟨l ++ [(atomTypeF c.En c.vs T τ).1], (atomTypeF c.En c.vs T τ).2, _, f', HC9, HO9, by simpa [HLL.out, List.flatMap_append] using HG9, HL2, rfl, hf2, by simp [HLL.out]; omega, hon⟩
        | false =>
          have HS3 := Lib.hid hs3
          have HE : Hid (R = (l, τ)) := by show _ = _; rw [← HL.out]; exact atomTypesL_end (by unfold PS.seesType; simp [hs1, hs2, hs3])
          subst hv
          clear hs1 hs2 hs3 HL
          go_wp2_with (first
            | (go_at_call 54; refine (k_some H1.out _).mono ?_; clear H1; rintro e w1 ⟨rfl, H1, ho1⟩; replace HO := Lib.hid (HO.out.trans ho1); replace HG := Lib.hid (HG.out.out ho1 hRW hR1); clear ho1; replace H1 := Lib.hid H1)
            | (go_at_call 56; refine (k_sign H1.out _).mono ?_; clear H1; rintro e w1 ⟨rfl, H1, ho1⟩; replace HO := Lib.hid (HO.out.trans ho1); replace HG := Lib.hid (HG.out.out ho1 hRW hR1); clear ho1; replace H1 := Lib.hid H1)
            | (go_at_call 57; refine (k_sees H1.out (sName) (sortFit (by decide) (by decide)) rfl rfl HS1.out).mono ?_; clear HS1; clear H1; rintro e w1 ⟨rfl, H1, ho1⟩; replace HO := Lib.hid (HO.out.trans ho1); replace HG := Lib.hid (HG.out.out ho1 hRW hR1); clear ho1; replace H1 := Lib.hid H1)
            | (go_at_call 57; refine (k_sees H1.out (sCon) (sortFit (by decide) (by decide)) rfl rfl HS2.out).mono ?_; clear HS2; clear H1; rintro e w1 ⟨rfl, H1, ho1⟩; replace HO := Lib.hid (HO.out.trans ho1); replace HG := Lib.hid (HG.out.out ho1 hRW hR1); clear ho1; replace H1 := Lib.hid H1)
            | (go_at_call 57; refine (k_sees H1.out (sS tLpar) (sortFit (by decide) (by decide)) rfl rfl HS3.out).mono ?_; clear HS3; clear H1; rintro e w1 ⟨rfl, H1, ho1⟩; replace HO := Lib.hid (HO.out.trans ho1); replace HG := Lib.hid (HG.out.out ho1 hRW hR1); clear ho1; replace H1 := Lib.hid H1))
          go_ret
          rw [HE.out]
          exact ⟨va, vc, rfl, by rw [tysC_eq]; exact HG.out.done H.out.size (flatC_len tyC_len l), H1.out, HO.out⟩

end Go.Proofs.Ytccilgemfkdmkaa

namespace Go.Proofs.Ytccilgemfkdmkaa
open Go.RowKit Go.Maps
set_option linter.unusedVariables false
set_option linter.unusedSimpArgs false

set_option maxRecDepth 100000 in
set_option maxHeartbeats 4000000 in
theorem k_leftType {c : Cx} {n : Nat} {T : PS → Ty × PS} (HONE : ∀ (W0 W : World) (τ : PS), Car c W0 W τ → τ.ts.length < n → Calls Try.prog 138 #[.pointer (some ⟨c.R, 0, none⟩)] W (Tells c W0 W tyC (T τ))) (hdec : Dec T)
    {W0 W : World} {σ : PS} (h : Car c W0 W σ) (hlen : σ.ts.length ≤ n) {R : Ty × PS} (hR : leftTypeF c.En c.vs T σ = R) :
    Calls Try.prog 141 #[.pointer (some ⟨c.R, 0, none⟩)] W (Tells c W0 W tyC R) := by
  have hfs := fld_s
  have hR0 := h.rd.lt
  have hR1 : c.R < (W.alloc (.cells #[.int .i64 0, .int .i64 0, .string ⟨#[]⟩, .slice none 0 0] 63)).heap.size := by simp; omega
  have H0 := Lib.hid h
  have H1 := Lib.hid (h.begin (.cells #[.int .i64 0, .int .i64 0, .string ⟨#[]⟩, .slice none 0 0] 63))
  have HONE2 := Lib.hid HONE
  have HD := Lib.hid hdec
  unfold leftTypeF at hR
  clear h HONE hdec
  cases hs1 : σ.sees sCon with
  | true =>
    rw [if_pos hs1] at hR
    have HS1 := Lib.hid hs1
    obtain ⟨A, hA⟩ : ∃ A, σ.take c.En sCon = A := ⟨_, rfl⟩
    have hAl : A.2.ts.length ≤ n := by rw [← hA]; exact Nat.le_trans (take_len _ _ _) hlen
    rw [hA] at hR
    obtain ⟨B, hB⟩ : ∃ B, atomTypesF c.En c.vs T A.2 = B := ⟨_, rfl⟩
    rw [hB] at hR
    have HR : Hid (R = (.mk 2 0 A.1.s B.1, B.2)) := Lib.hid hR.symm
    have HA := Lib.hid hA
    have HB := Lib.hid hB
    clear hs1 hR hA hB
    go_enter Try.func141, Try.ntmps141
    go_wp2_with (first
      | (go_at_call 54; refine (k_some H1.out _).mono ?_; clear H1; rintro e w1 ⟨rfl, H1, ho1⟩; clear ho1; replace H1 := Lib.hid H1)
      | (go_at_call 57; refine (k_sees H1.out (sCon) (sortFit (by decide) (by decide)) rfl rfl HS1.out).mono ?_; clear HS1; clear H1; rintro e w1 ⟨rfl, H1, ho1⟩; clear ho1; replace H1 := Lib.hid H1)
      | (go_at_call 59; refine (k_take H1.out (sCon) (sortFit (by decide) (by decide)) (by decide) rfl rfl HA.out).mono ?_; clear HA; clear H1; rintro e w1 ⟨rfl, H1, ho1⟩; clear ho1; replace H1 := Lib.hid H1)
      | (go_at_call 117; refine (k_atomTypes HONE2.out HD.out H1.out hAl HB.out).mono ?_; clear H1; rintro e w1 ⟨a1, cp1, rfl, hc1, H1, ho1⟩; have hb4 := H1.res hR0; obtain ⟨_, _, _, _⟩ := four_cells hb4; obtain ⟨_, _, _, _⟩ := four_frozen hb4; clear hb4; have HC := Lib.hid hc1; clear ho1 hc1; replace H1 := Lib.hid H1))
    refine bodyPost_ret (v := .agg #[.int .i64 2, .int .i64 0, .string (strB A.1.s), .slice a1 B.1.length cp1]) (by simp only [results, Try.results141]; go_simp <;> rfl) rfl ?_
    refine tells H0.out H1.out (by repeat (first | with_reducible exact Nb.refl _ _ | with_reducible refine Nb.set ?_ _ _ | with_reducible refine Nb.alloc ?_ _ | with_reducible refine Nb.drew ?_)) (by rw [HR.out]) ?_
    rw [HR.out]
    exact IsV.of_ty HC.out
  | false =>
    rw [if_neg (by rw [hs1]; decide)] at hR
    have HS1 := Lib.hid hs1
    have HR0 := Lib.hid hR
    clear hs1 hR
    go_enter Try.func141, Try.ntmps141
    go_wp2_with (first
      | (go_at_call 54; refine (k_some H1.out _).mono ?_; clear H1; rintro e w1 ⟨rfl, H1, ho1⟩; clear ho1; replace H1 := Lib.hid H1)
      | (go_at_call 57; refine (k_sees H1.out (sCon) (sortFit (by decide) (by decide)) rfl rfl HS1.out).mono ?_; clear HS1; clear H1; rintro e w1 ⟨rfl, H1, ho1⟩; clear ho1; replace H1 := Lib.hid H1)
      | (go_at_call 127; refine (k_atomType HONE2.out HD.out H1.out hlen HR0.out).mono ?_; clear H1; rintro e w1 ⟨v1, rfl, hv1, H1, ho1⟩; obtain ⟨x0, x1, x2, x3, x4, x5, hx9⟩ := hv1.tys; subst hx9; have hb4 := H1.res hR0; obtain ⟨_, _, _, _⟩ := four_cells hb4; obtain ⟨_, _, _, _⟩ := four_frozen hb4; clear hb4; have HV := Lib.hid hv1; clear ho1 hv1 ; replace H1 := Lib.hid H1))
    refine bodyPost_ret (v := .agg #[.int .i64 x0, .int .i64 x1, .string (strB x2), .slice x3 x4 x5]) (by simp only [results, Try.results141]; go_simp <;> rfl) rfl ?_
    refine tells H0.out H1.out (by repeat (first | with_reducible exact Nb.refl _ _ | with_reducible refine Nb.set ?_ _ _ | with_reducible refine Nb.alloc ?_ _ | with_reducible refine Nb.drew ?_)) rfl ?_
    exact HV.out

end Go.Proofs.Ytccilgemfkdmkaa

namespace Go.Proofs.Ytccilgemfkdmkaa
open Go.RowKit Go.Maps
set_option linter.unusedVariables false
set_option linter.unusedSimpArgs false

theorem IsV.drew {S : Nat → Prop} {w : World} {cs : List Cl} {v : Value} (h : IsV S w cs v) : IsV S w.drew cs v := by
  obtain ⟨us, rfl, h1⟩ := h; exact ⟨us, rfl, h1.drew⟩
theorem InC.two {S : Nat → Prop} {w : World} {k : Nat} {t : TypeId} {cs ds : List Cl} {us vs : List Value} (h1 : IsV S w cs (.agg us.toArray)) (h2 : IsV S w ds (.agg vs.toArray)) (hS : S w.heap.size) (hl1 : cs.length = k) (hl2 : ds.length = k) {xs : List Value} (hx : xs = us ++ vs) :
    InC S (w.alloc (.cells xs.toArray t)) (.s 2 k (cs ++ ds)) (.slice (some ⟨w.heap.size, 0, none⟩) 2 2) := by
  subst hx
  refine InC.of_new (InS.app (by simpa [Value.cells] using h1.cells) (by simpa [Value.cells] using h2.cells)) hS (by rw [List.length_append, hl1, hl2]; omega) (by decide)

set_option maxRecDepth 100000 in
set_option maxHeartbeats 4000000 in
theorem k_typStep {c : Cx} {n : Nat} {T : PS → Ty × PS} (HONE : ∀ (W0 W : World) (τ : PS), Car c W0 W τ → τ.ts.length < n → Calls Try.prog 138 #[.pointer (some ⟨c.R, 0, none⟩)] W (Tells c W0 W tyC (T τ))) (hdec : Dec T)
    {W0 W : World} {σ : PS} (h : Car c W0 W σ) (hlen : σ.ts.length ≤ n) {R : Ty × PS} (hR : typStep c.En c.vs T σ = R) :
    Calls Try.prog 138 #[.pointer (some ⟨c.R, 0, none⟩)] W (Tells c W0 W tyC R) := by
  have hR0 := h.rd.lt
  have hR1 : c.R < (W.alloc (.cells #[.int .i64 0, .int .i64 0, .string ⟨#[]⟩, .slice none 0 0] 63)).heap.size := by simp; omega
  have hWs : (W.alloc (.cells #[.int .i64 0, .int .i64 0, .string ⟨#[]⟩, .slice none 0 0] 63)).heap.size = W.heap.size + 1 := by simp
  have H0 := Lib.hid h
  have H1 := Lib.hid (h.begin (.cells #[.int .i64 0, .int .i64 0, .string ⟨#[]⟩, .slice none 0 0] 63))
  have HONE2 := Lib.hid HONE
  have HD := Lib.hid hdec
  obtain ⟨A, hA⟩ : ∃ A, leftTypeF c.En c.vs T σ = A := ⟨_, rfl⟩
  have hAl : A.2.ts.length ≤ n := by rw [← hA]; exact Nat.le_trans (leftTypeF_len hdec σ) hlen
  unfold typStep at hR
  rw [hA] at hR
  have HA := Lib.hid hA
  clear h HONE hdec hA
  cases hs1 : A.2.sees (sS tArrow) with
  | false =>
    rw [if_neg (by rw [hs1]; decide)] at hR
    have HSK : Hid (A.2.skip (sS tArrow) = (false, A.2)) := by show _ = _; unfold PS.skip; rw [if_neg (by rw [hs1]; decide)]
    have HR : Hid (R = A) := Lib.hid hR.symm
    clear hs1 hR
    go_enter Try.func138, Try.ntmps138
    go_wp2_with (first
      | (go_at_call 141; refine (k_leftType HONE2.out HD.out H1.out hlen HA.out).mono ?_; clear H1; rintro e w1 ⟨v1, rfl, hv1, H1, ho1⟩; obtain ⟨x0, x1, x2, x3, x4, x5, hx9⟩ := hv1.tys; subst hx9; have hB3l := H1.size; have HB3 := Lib.hid (Box.new w1 63 [.int .i64 x0, .int .i64 x1, .string (strB x2), .slice x3 x4 x5]); have HV := Lib.hid (hv1.under ((Below.refl _ w1).alloc (Nat.le_refl _) (.cells #[.int .i64 x0, .int .i64 x1, .string (strB x2), .slice x3 x4 x5] 63))); replace H1 := Lib.hid (H1.alloc (.cells #[.int .i64 x0, .int .i64 x1, .string (strB x2), .slice x3 x4 x5] 63)); clear ho1 hv1)
      | (go_at_call 56; refine (k_sign H1.out _).mono ?_; clear H1; rintro e w2 ⟨rfl, H1, ho1⟩; replace HV := Lib.hid (stay ho1 hR1 HV.out); replace HB3 := Lib.hid (ho1.box HB3.out (show ¬ (_ = c.R) by omega)); clear ho1; replace H1 := Lib.hid H1)
      | (go_at_call 116; refine (k_skip H1.out (sS tArrow) (sortFit (by decide) (by decide)) (by decide) rfl rfl HSK.out).mono ?_; clear H1; rintro e w3 ⟨rfl, H1, ho1⟩; replace HV := Lib.hid (stay ho1 hR1 HV.out); replace HB3 := Lib.hid (ho1.box HB3.out (show ¬ (_ = c.R) by omega)); have hb4 := H1.res hR0; obtain ⟨_, _, _, _⟩ := four_cells hb4; obtain ⟨_, _, _, _⟩ := four_frozen hb4; clear hb4; obtain ⟨_, _, _, _⟩ := four_cells HB3.out; have hw13 : w1.heap.size < w3.heap.size := HB3.out.lt; clear ho1; replace H1 := Lib.hid H1))
    refine bodyPost_ret (v := .agg #[.int .i64 x0, .int .i64 x1, .string (strB x2), .slice x3 x4 x5]) (by simp only [results, Try.results138]; go_simp <;> rfl) rfl ?_
    refine tells H0.out H1.out (by repeat (first | with_reducible exact Nb.refl _ _ | with_reducible refine Nb.set ?_ _ _ | with_reducible refine Nb.alloc ?_ _ | with_reducible refine Nb.drew ?_)) (by rw [HR.out]) ?_
    rw [HR.out]
    exact HV.out
  | true =>
    rw [if_pos hs1] at hR
    have HSK : Hid (A.2.skip (sS tArrow) = (true, A.2.tail)) := by show _ = _; unfold PS.skip; rw [if_pos hs1]
    have hp := sees_pos hs1 (sS_ne _)
    obtain ⟨B, hB⟩ : ∃ B, T A.2.tail = B := ⟨_, rfl⟩
    rw [hB] at hR
    have HR : Hid (R = (.mk 2 0 tArrow [A.1, B.1], B.2)) := Lib.hid hR.symm
    have HT : Hid (∀ (W0 W : World), Car c W0 W A.2.tail → Calls Try.prog 138 #[.pointer (some ⟨c.R, 0, none⟩)] W (Tells c W0 W tyC B)) := fun W0 W hc => hB ▸ HONE2.out W0 W A.2.tail hc (by rw [tail_len]; omega)
    clear hs1 hR hp hB
    go_enter Try.func138, Try.ntmps138
    go_wp2_with (first
      | (go_at_call 141; refine (k_leftType HONE2.out HD.out H1.out hlen HA.out).mono ?_; clear H1; rintro e w1 ⟨v1, rfl, hv1, H1, ho1⟩; obtain ⟨x0, x1, x2, x3, x4, x5, hx9⟩ := hv1.tys; subst hx9; have hB3l := H1.size; have HB3 := Lib.hid (Box.new w1 63 [.int .i64 x0, .int .i64 x1, .string (strB x2), .slice x3 x4 x5]); have HV := Lib.hid (hv1.under ((Below.refl _ w1).alloc (Nat.le_refl _) (.cells #[.int .i64 x0, .int .i64 x1, .string (strB x2), .slice x3 x4 x5] 63))); replace H1 := Lib.hid (H1.alloc (.cells #[.int .i64 x0, .int .i64 x1, .string (strB x2), .slice x3 x4 x5] 63)); clear ho1 hv1)
      | (go_at_call 56; refine (k_sign H1.out _).mono ?_; clear H1; rintro e w2 ⟨rfl, H1, ho1⟩; replace HV := Lib.hid (stay ho1 hR1 HV.out); replace HB3 := Lib.hid (ho1.box HB3.out (show ¬ (_ = c.R) by omega)); clear ho1; replace H1 := Lib.hid H1)
      | (go_at_call 116; refine (k_skip H1.out (sS tArrow) (sortFit (by decide) (by decide)) (by decide) rfl rfl HSK.out).mono ?_; clear H1; rintro e w3 ⟨rfl, H1, ho1⟩; replace HV := Lib.hid (stay ho1 hR1 HV.out); replace HB3 := Lib.hid (ho1.box HB3.out (show ¬ (_ = c.R) by omega)); have hb4 := H1.res hR0; obtain ⟨_, _, _, _⟩ := four_cells hb4; obtain ⟨_, _, _, _⟩ := four_frozen hb4; clear hb4; obtain ⟨_, _, _, _⟩ := four_cells HB3.out; have hw13 : w1.heap.size < w3.heap.size := HB3.out.lt; clear ho1; replace H1 := Lib.hid H1))
    go_region_with (go_at_call 138; (with_reducible refine (HT.out _ _ (Car.drew H1.out)).mono ?_); rintro e w4 ⟨v1, rfl, hv2, H4, ho1⟩; obtain ⟨y0, y1, y2, y3, y4, y5, hy9⟩ := hv2.tys; subst hy9; have HV4 := Lib.hid (stay ho1 hR1 HV.out.drew); have HB4 := Lib.hid (ho1.box (Box.drew HB3.out) (show ¬ (_ = c.R) by omega)); have HV2 := Lib.hid hv2; have hb4 := H4.res hR0; obtain ⟨_, _, _, _⟩ := four_cells hb4; obtain ⟨_, _, _, _⟩ := four_frozen hb4; obtain ⟨_, _, _, _⟩ := four_cells HB4.out; have hw14 : w1.heap.size < w4.heap.size := HB4.out.lt; have hw04 : W.heap.size < w4.heap.size := hb4.lt; clear hb4 ho1 hv2; replace H4 := Lib.hid H4)
    all_goals go_wp2_with fail
    all_goals (refine bodyPost_ret (v := .agg #[.int .i64 2, .int .i64 0, .string ⟨#[45, 62]⟩, .slice (some ⟨w4.heap.size, 0, none⟩) 2 2]) (by simp only [results, Try.results138]; go_simp <;> rfl) rfl ?_)
    all_goals (refine tells H0.out (H4.out.alloc (.cells #[.int .i64 x0, .int .i64 x1, .string (strB x2), .slice x3 x4 x5, .int .i64 y0, .int .i64 y1, .string (strB y2), .slice y3 y4 y5] 63)) (Nb.both (by repeat (first | with_reducible exact Nb.refl _ _ | with_reducible refine Nb.set ?_ _ _)) (by simp) _) (by rw [HR.out]) ?_)
    all_goals (rw [HR.out]; refine IsV.of_ty (s := tArrow) (kids := [A.1, B.1]) ?_; have hk := InC.two (k := 4) (t := 63) (us := [.int .i64 x0, .int .i64 x1, .string (strB x2), .slice x3 x4 x5]) (vs := [.int .i64 y0, .int .i64 y1, .string (strB y2), .slice y3 y4 y5]) HV4.out HV2.out (by have := H4.out.size; exact this) (tyC_len _) (tyC_len _) rfl; simpa [tysC] using hk)

end Go.Proofs.Ytccilgemfkdmkaa
