/- The document's parser: expr, nothing left. -/
import Derived.Test.YtgkeblpjmfdhkaaYxbM
namespace Go.Proofs.Ytgkeblpjmfdhkaa
open Go.RowKit Go.Maps
set_option linter.unusedVariables false
set_option linter.unusedSimpArgs false

set_option maxRecDepth 100000 in
set_option maxHeartbeats 8000000 in
theorem c_expr_nil {c : Px} {X : PS → Ex × PS} {W0 W : World} {σ : PS} (h : Cay c W0 W σ) (hts : σ.ts = []) {R : Ex × PS} (hR : ((Ex.zero, σ.stop c.En) : Ex × PS) = R) :
    Calls Try.prog 57 #[.pointer (some ⟨c.R, 0, none⟩)] W (TellsY c W0 W exC R) := by
  have hR0 := h.rd.lt
  have hlenc := h.rd.len
  have hcap := h.rd.cap
  have HR : Hid (R = (Ex.zero, σ.stop c.En)) := Lib.hid hR.symm
  have H0 := Lib.hid h
  have H1 := Lib.hid (h.begin (.cells #[.int .i64 0, .int .i64 0, .string ⟨#[]⟩, .int .i64 0, .slice none 0 0, .slice none 0 0] 43))
  obtain ⟨i, hi, hb, h1, _⟩ := H1.out.rd.box
  cases hst : σ.st with
  | true =>
    rw [hst] at hb
    obtain ⟨_, _, _, _, _⟩ := five_cells hb
    clear h hts hR hb h1 hst
    go_enter Try.func57, Try.ntmps57
    go_upto_region 1 with (fail)
    go_quiet (fail)
    go_wp2_with (go_at_call 101; refine (c_fail (H1.out.drewN nq)).mono ?_; clear H1; rintro e w2 ⟨rfl, H1, ho1⟩; clear ho1; have hb4 := H1.res hR0; obtain ⟨_, _, _, _, _, _⟩ := six_cells hb4; obtain ⟨_, _, _, _, _, _⟩ := six_frozen hb4; clear hb4; replace H1 := Lib.hid H1)
    refine bodyPost_ret (v := .agg #[.int .i64 0, .int .i64 0, .string ⟨#[]⟩, .int .i64 0, .slice none 0 0, .slice none 0 0]) (by simp only [results, Try.results57]; go_simp <;> rfl) rfl ?_
    refine tellsY H0.out H1.out (by repeat (first | with_reducible exact Nb.refl _ _ | with_reducible refine Nb.set ?_ _ _)) (by rw [HR.out]) _ (fun _ => by rw [HR.out]) ?_
    exact zero_ex _ _
  | false =>
    rw [hst] at hb
    have h2 := (h1 hst).symm.trans hts
    have hil : i = c.ts.length := by
      have := congrArg List.length h2
      rw [List.length_drop, List.length_nil] at this; omega
    subst hil
    obtain ⟨_, _, _, _, _⟩ := five_cells hb
    clear h hts hR hb h1 hst h2
    generalize c.ts.length = N at *
    have hge : decide ((N : Int) ≤ (N : Int)) = true := by simp
    have hge2 : decide (N ≤ N) = true := by simp
    go_enter Try.func57, Try.ntmps57
    go_upto_region 1 with (fail)
    go_quiet (fail)
    go_wp2_with (go_at_call 101; refine (c_fail (H1.out.drewN nq)).mono ?_; clear H1; rintro e w2 ⟨rfl, H1, ho1⟩; clear ho1; have hb4 := H1.res hR0; obtain ⟨_, _, _, _, _, _⟩ := six_cells hb4; obtain ⟨_, _, _, _, _, _⟩ := six_frozen hb4; clear hb4; replace H1 := Lib.hid H1)
    refine bodyPost_ret (v := .agg #[.int .i64 0, .int .i64 0, .string ⟨#[]⟩, .int .i64 0, .slice none 0 0, .slice none 0 0]) (by simp only [results, Try.results57]; go_simp <;> rfl) rfl ?_
    refine tellsY H0.out H1.out (by repeat (first | with_reducible exact Nb.refl _ _ | with_reducible refine Nb.set ?_ _ _)) (by rw [HR.out]) _ (fun _ => by rw [HR.out]) ?_
    exact zero_ex _ _

end Go.Proofs.Ytgkeblpjmfdhkaa
