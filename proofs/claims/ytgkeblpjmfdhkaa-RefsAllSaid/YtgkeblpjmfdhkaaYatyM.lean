/- The document's parser: atype, but for brackets. -/
import Derived.Test.YtgkeblpjmfdhkaaYBM
namespace Go.Proofs.Ytgkeblpjmfdhkaa
open Go.RowKit Go.Maps
set_option linter.unusedVariables false
set_option linter.unusedSimpArgs false

set_option maxRecDepth 100000 in
set_option maxHeartbeats 4000000 in
theorem c_atype_name {c : Px} {vs : List By} {a : Option Addr} {cp : Nat}
    {W0 W : World} {σ : PS} (h : Cay c W0 W σ) (hV : VY c W a cp vs) (hsee : σ.sees sName = true) {R : Ty × PS} (hR : variableF c.En vs σ = R) :
    Calls Try.prog 103 #[.pointer (some ⟨c.R, 0, none⟩), .slice a vs.length cp] W (TellsY c W0 W tyC R) := by
  have hR0 := h.rd.lt
  have hlen := h.rd.len
  have hcap := h.rd.cap
  obtain ⟨t, r, hts, hst, hk⟩ := sees_head hsee (by decide)
  have hsT : σ.seesType = true := by unfold PS.seesType; simp [hsee]
  have HR : Hid (R = (varTy vs t.s, σ.tail)) := by show _ = _; rw [← hR]; unfold variableF; rw [tail_take hsee]; unfold PS.head; rw [hts]; rfl
  have H0 := Lib.hid h
  have H1 := Lib.hid (h.begin (.cells #[.int .i64 0, .int .i64 0, .string ⟨#[]⟩, .slice none 0 0] 120))
  have HS := Lib.hid hsT
  have HTS := Lib.hid hts
  have HV := Lib.hid (hV.under ((Below.refl _ W).alloc (Nat.le_refl _) (.cells #[.int .i64 0, .int .i64 0, .string ⟨#[]⟩, .slice none 0 0] 120)))
  obtain ⟨tk, tp, tx, tn⟩ := t
  have hk1 : tk = 1 := hk
  subst hk1
  obtain ⟨TX, hTX⟩ : ∃ TX, strB tx = TX := ⟨_, rfl⟩
  have HTX := Lib.hid hTX
  obtain ⟨n, hn⟩ : ∃ n, vs.length = n := ⟨_, rfl⟩
  have HN := Lib.hid hn
  rw [hn]
  clear h hR hsee hsT hts hst hk hV hTX hn
  cases ho : placeL vs tx with
  | none =>
    have HQ : Hid (placeI vs tx = -1) := by show _ = _; unfold placeI; rw [ho]
    have HR2 : Hid (varTy vs tx = .mk 1 (-1) tx []) := by show _ = _; unfold varTy; rw [ho]
    clear ho
    go_enter Try.func103, Try.ntmps103
    go_upto_region 4 with (go_at_call 102; refine (c_atypic H1.out HS.out).mono ?_; clear H1 HS; rintro e w1 ⟨rfl, H1, ho1⟩; replace HV := Lib.hid (HV.out.out ho1); clear ho1; replace H1 := Lib.hid H1)
    obtain ⟨i, b, off, h0', hi, hd, ha, hbR, hb, q0, q1, q2, q3, _, _⟩ := H1.out.rd.head HTS.out
    have HB := Lib.hid hb
    have HD := Lib.hid hd
    have HA := Lib.hid ha
    have HI := Lib.hid hi
    have HST := Lib.hid h0'
    obtain ⟨_, _, _, _, _⟩ := five_cells hb
    obtain ⟨_, _, _, _, _⟩ := five_frozen hb
    have T9 : ∀ W, Sem.run Try.prog (Instr.indexAt 81 (.slice (some ⟨b, off, none⟩) c.ts.length c.cp) (.int .i64 (i : Int))) W = .ok (.pointer (some ⟨b, off + i * 4, none⟩)) W := fun W => by go_simp
    have hR9 := H1.out.rd.lt
    have hb9 : b < w1.heap.size := by omega
    have hne : b ≠ c.R := by omega
    dsimp only at q0 q1 q2 q3
    have hTX := HTX.out
    rw [hTX] at q2

    obtain ⟨hs1, hs2, hs3⟩ := H1.out.stepTok HTS.out h0' hd hi ha hb [.int .i64 (1 : Int), .int .i64 (tp : Int), .string TX, .int .i64 (tn : Int)]
    replace HV := Lib.hid (HV.out.out hs2)
    have HX := Lib.hid hs3
    replace H1 := Lib.hid hs1
    clear hb hd ha h0' hTX hs1 hs2 hs3
    go_region
    go_wp2_with (go_at_call 70; rw [← HN.out]; refine (c_place H1.out HV.out tx HTX.out HQ.out).mono ?_; clear H1; rintro e w2 ⟨rfl, H1, hb2⟩; have bx := HX.out.below hb2; obtain ⟨_, _, _, _⟩ := four_cells bx; have hxl := bx.lt; clear hb2 bx; have hb4 := H1.res hR0; obtain ⟨_, _, _, _⟩ := four_cells hb4; obtain ⟨_, _, _, _⟩ := four_frozen hb4; clear hb4; replace H1 := Lib.hid H1)
    refine bodyPost_ret (v := .agg #[.int .i64 1, .int .i64 (-1), .string TX, .slice none 0 0]) (by simp only [results, Try.results103]; go_simp <;> rfl) rfl ?_
    refine tellsY H0.out H1.out (by repeat (first | with_reducible exact Nb.refl _ _ | with_reducible refine Nb.set ?_ _ _ | with_reducible refine Nb.alloc ?_ _ | with_reducible refine Nb.drew ?_)) (by rw [HR.out]) _ (fun _ => by rw [HR.out]) ?_
    rw [HR2.out, ← HTX.out]
    exact IsV.of_ty (.e _ _ _)
  | some j =>
    have HQ : Hid (placeI vs tx = (j : Int)) := by show _ = _; unfold placeI; rw [ho]
    have HR2 : Hid (varTy vs tx = .mk 1 (j : Int) [] []) := by show _ = _; unfold varTy; rw [ho]
    clear ho
    go_enter Try.func103, Try.ntmps103
    go_upto_region 4 with (go_at_call 102; refine (c_atypic H1.out HS.out).mono ?_; clear H1 HS; rintro e w1 ⟨rfl, H1, ho1⟩; replace HV := Lib.hid (HV.out.out ho1); clear ho1; replace H1 := Lib.hid H1)
    obtain ⟨i, b, off, h0', hi, hd, ha, hbR, hb, q0, q1, q2, q3, _, _⟩ := H1.out.rd.head HTS.out
    have HB := Lib.hid hb
    have HD := Lib.hid hd
    have HA := Lib.hid ha
    have HI := Lib.hid hi
    have HST := Lib.hid h0'
    obtain ⟨_, _, _, _, _⟩ := five_cells hb
    obtain ⟨_, _, _, _, _⟩ := five_frozen hb
    have T9 : ∀ W, Sem.run Try.prog (Instr.indexAt 81 (.slice (some ⟨b, off, none⟩) c.ts.length c.cp) (.int .i64 (i : Int))) W = .ok (.pointer (some ⟨b, off + i * 4, none⟩)) W := fun W => by go_simp
    have hR9 := H1.out.rd.lt
    have hb9 : b < w1.heap.size := by omega
    have hne : b ≠ c.R := by omega
    dsimp only at q0 q1 q2 q3
    have hTX := HTX.out
    rw [hTX] at q2

    obtain ⟨hs1, hs2, hs3⟩ := H1.out.stepTok HTS.out h0' hd hi ha hb [.int .i64 (1 : Int), .int .i64 (tp : Int), .string TX, .int .i64 (tn : Int)]
    replace HV := Lib.hid (HV.out.out hs2)
    have HX := Lib.hid hs3
    replace H1 := Lib.hid hs1
    clear hb hd ha h0' hTX hs1 hs2 hs3
    go_region
    go_wp2_with (go_at_call 70; rw [← HN.out]; refine (c_place H1.out HV.out tx HTX.out HQ.out).mono ?_; clear H1; rintro e w2 ⟨rfl, H1, hb2⟩; have bx := HX.out.below hb2; obtain ⟨_, _, _, _⟩ := four_cells bx; have hxl := bx.lt; clear hb2 bx; have hb4 := H1.res hR0; obtain ⟨_, _, _, _⟩ := four_cells hb4; obtain ⟨_, _, _, _⟩ := four_frozen hb4; clear hb4; replace H1 := Lib.hid H1)
    refine bodyPost_ret (v := .agg #[.int .i64 1, .int .i64 (j : Int), .string ⟨#[]⟩, .slice none 0 0]) (by simp only [results, Try.results103]; go_simp <;> rfl) rfl ?_
    refine tellsY H0.out H1.out (by repeat (first | with_reducible exact Nb.refl _ _ | with_reducible refine Nb.set ?_ _ _ | with_reducible refine Nb.alloc ?_ _ | with_reducible refine Nb.drew ?_)) (by rw [HR.out]) _ (fun _ => by rw [HR.out]) ?_
    rw [HR2.out]
    exact IsV.of_ty (s := []) (.e _ _ _)

set_option maxRecDepth 100000 in
set_option maxHeartbeats 4000000 in
theorem c_atype_conX {c : Px} {vs : List By} {a : Option Addr} {cp : Nat}
    {W0 W : World} {σ : PS} (h : Cay c W0 W σ) (hV : VY c W a cp vs) (hno : σ.sees sName = false) (hsee : σ.sees sCon = true) {R : By × PS} (hR : (((σ.take c.En sCon).1.s, (σ.take c.En sCon).2) : By × PS) = R) :
    Calls Try.prog 103 #[.pointer (some ⟨c.R, 0, none⟩), .slice a vs.length cp] W fun e w' => e = .returned (.agg #[.int .i64 2, .int .i64 0, .string (strB R.1), .slice none 0 0]) ∧ Cay c W0 w' R.2 ∧ Out (fun b => b = c.R) W w' := by
  have hR0 := h.rd.lt
  have hlen := h.rd.len
  have hcap := h.rd.cap
  obtain ⟨t, r, hts, hst, hk⟩ := sees_head hsee (by decide)
  have hsT : σ.seesType = true := by unfold PS.seesType; simp [hsee]
  have HR : Hid (R = (t.s, σ.tail)) := by show _ = _; rw [← hR]; rw [tail_take hsee]; unfold PS.head; rw [hts]; rfl
  have H0 := Lib.hid h
  have H1 := Lib.hid (h.begin (.cells #[.int .i64 0, .int .i64 0, .string ⟨#[]⟩, .slice none 0 0] 120))
  have HS := Lib.hid hsT
  have HTS := Lib.hid hts
  have HV := Lib.hid (hV.under ((Below.refl _ W).alloc (Nat.le_refl _) (.cells #[.int .i64 0, .int .i64 0, .string ⟨#[]⟩, .slice none 0 0] 120)))
  obtain ⟨tk, tp, tx, tn⟩ := t
  have hk1 : tk = 2 := hk
  subst hk1
  obtain ⟨TX, hTX⟩ : ∃ TX, strB tx = TX := ⟨_, rfl⟩
  have HTX := Lib.hid hTX
  obtain ⟨n, hn⟩ : ∃ n, vs.length = n := ⟨_, rfl⟩
  have HN := Lib.hid hn
  rw [hn]
  clear h hR hsee hsT hts hst hk hV hTX hn
  go_enter Try.func103, Try.ntmps103
  go_upto_region 4 with (go_at_call 102; refine (c_atypic H1.out HS.out).mono ?_; clear H1 HS; rintro e w1 ⟨rfl, H1, ho1⟩; replace HV := Lib.hid (HV.out.out ho1); clear ho1; replace H1 := Lib.hid H1)
  obtain ⟨i, b, off, h0', hi, hd, ha, hbR, hb, q0, q1, q2, q3, _, _⟩ := H1.out.rd.head HTS.out
  have HB := Lib.hid hb
  have HD := Lib.hid hd
  have HA := Lib.hid ha
  have HI := Lib.hid hi
  have HST := Lib.hid h0'
  obtain ⟨_, _, _, _, _⟩ := five_cells hb
  obtain ⟨_, _, _, _, _⟩ := five_frozen hb
  have T9 : ∀ W, Sem.run Try.prog (Instr.indexAt 81 (.slice (some ⟨b, off, none⟩) c.ts.length c.cp) (.int .i64 (i : Int))) W = .ok (.pointer (some ⟨b, off + i * 4, none⟩)) W := fun W => by go_simp
  have hR9 := H1.out.rd.lt
  have hb9 : b < w1.heap.size := by omega
  have hne : b ≠ c.R := by omega
  dsimp only at q0 q1 q2 q3
  have hTX := HTX.out
  rw [hTX] at q2
  have hb4 := H1.out.res hR0
  obtain ⟨_, _, _, _⟩ := four_cells hb4
  obtain ⟨_, _, _, _⟩ := four_frozen hb4
  have hW1 := hb4.lt
  have hWR : W.heap.size ≠ c.R := by omega
  clear hb4
  obtain ⟨hs1, hs2, hs3⟩ := H1.out.stepTok HTS.out h0' hd hi ha hb [.int .i64 (2 : Int), .int .i64 (tp : Int), .string TX, .int .i64 (tn : Int)]
  replace HV := Lib.hid (HV.out.out hs2)
  have HX := Lib.hid hs3
  replace H1 := Lib.hid hs1
  clear hb hd ha h0' hTX hs1 hs2 hs3
  go_region
  go_wp2_with fail
  refine bodyPost_ret (v := .agg #[.int .i64 2, .int .i64 0, .string TX, .slice none 0 0]) (by simp only [results, Try.results103]; go_simp <;> rfl) rfl ?_
  rw [HR.out]
  refine ⟨by rw [← HTX.out], ?_⟩
  refine finY H0.out H1.out ?_
  exact Nb.drew2 (Nb.both (by repeat (first | with_reducible exact Nb.refl _ _ | with_reducible refine Nb.set ?_ _ _)) (by simp) _)

theorem c_atype_con {c : Px} {vs : List By} {a : Option Addr} {cp : Nat}
    {W0 W : World} {σ : PS} (h : Cay c W0 W σ) (hV : VY c W a cp vs) (hno : σ.sees sName = false) (hsee : σ.sees sCon = true) {R : Ty × PS} (hR : ((Ty.mk 2 0 (σ.take c.En sCon).1.s [], (σ.take c.En sCon).2) : Ty × PS) = R) :
    Calls Try.prog 103 #[.pointer (some ⟨c.R, 0, none⟩), .slice a vs.length cp] W (TellsY c W0 W tyC R) := by
  subst hR
  exact (c_atype_conX h hV hno hsee rfl).mono fun e w' ⟨h1, h2, h3⟩ => ⟨_, _, h1, IsV.of_ty (.e _ _ _), fun _ => rfl, h2, h3⟩

set_option maxRecDepth 100000 in
set_option maxHeartbeats 4000000 in
theorem c_atype_no {c : Px} {vs : List By} {a : Option Addr} {cp : Nat}
    {W0 W : World} {σ : PS} (h : Cay c W0 W σ) (hV : VY c W a cp vs) (hsee : σ.seesType = false) {R : Ty × PS} (hR : ((Ty.zero, σ.stop c.En) : Ty × PS) = R) :
    Calls Try.prog 103 #[.pointer (some ⟨c.R, 0, none⟩), .slice a vs.length cp] W (TellsY c W0 W tyC R) := by
  have hR0 := h.rd.lt
  have HR : Hid (R = (Ty.zero, σ.stop c.En)) := Lib.hid hR.symm
  have H0 := Lib.hid h
  have H1 := Lib.hid (h.begin (.cells #[.int .i64 0, .int .i64 0, .string ⟨#[]⟩, .slice none 0 0] 120))
  have HS := Lib.hid hsee
  clear h hR hsee hV
  go_enter Try.func103, Try.ntmps103
  go_wp2_with (first
    | (go_at_call 102; refine (c_atypic H1.out HS.out).mono ?_; clear H1 HS; rintro e w1 ⟨rfl, H1, ho1⟩; clear ho1; replace H1 := Lib.hid H1)
    | (go_at_call 101; refine (c_fail H1.out).mono ?_; clear H1; rintro e w2 ⟨rfl, H1, ho1⟩; clear ho1; have hb4 := H1.res hR0; obtain ⟨_, _, _, _⟩ := four_cells hb4; obtain ⟨_, _, _, _⟩ := four_frozen hb4; clear hb4; replace H1 := Lib.hid H1))
  refine bodyPost_ret (v := .agg #[.int .i64 0, .int .i64 0, .string ⟨#[]⟩, .slice none 0 0]) (by simp only [results, Try.results103]; go_simp <;> rfl) rfl ?_
  refine tellsY H0.out H1.out (by repeat (first | with_reducible exact Nb.refl _ _ | with_reducible refine Nb.set ?_ _ _ | with_reducible refine Nb.alloc ?_ _ | with_reducible refine Nb.drew ?_)) (by rw [HR.out]) _ (fun _ => by rw [HR.out]) ?_
  exact zero_ty _ _

end Go.Proofs.Ytgkeblpjmfdhkaa
