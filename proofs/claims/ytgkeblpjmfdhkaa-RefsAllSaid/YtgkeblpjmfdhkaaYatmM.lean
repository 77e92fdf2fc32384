/- The document's parser: atom, but for brackets. -/
import Derived.Test.YtgkeblpjmfdhkaaYBM
import Derived.Test.YtgkeblpjmfdhkaaZEM
namespace Go.Proofs.Ytgkeblpjmfdhkaa
open Go.RowKit Go.Maps
set_option linter.unusedVariables false
set_option linter.unusedSimpArgs false

theorem atomF_leaf {En : Nat} {X : PS → Ex × PS} {σ : PS} {s : Srt} {k : Nat} (h : σ.sees s = true) (hb : beg s = k) (hl : isLeaf k = true) : atomF En X σ = (leafE k σ.head, σ.tail) := by
  have h1 : σ.next = s := of_decide_eq_true h
  unfold atomF
  rw [h1, hb, if_pos hl]
set_option maxRecDepth 100000 in
set_option maxHeartbeats 4000000 in
theorem c_atom_name {c : Px} {X : PS → Ex × PS} {W0 W : World} {σ : PS} (h : Cay c W0 W σ) (hsee : σ.sees sName = true) {R : Ex × PS} (hR : atomF c.En X σ = R) :
    Calls Try.prog 105 #[.pointer (some ⟨c.R, 0, none⟩)] W (TellsY c W0 W exC R) := by
  have hR0 := h.rd.lt
  have hlen := h.rd.len
  have hcap := h.rd.cap
  obtain ⟨t, r, hts, hst, hk⟩ := sees_head hsee (by decide)
  have hsT : σ.seesAtom = true := by rw [atom_sees]; simp [hsee]
  have HR : Hid (R = (leafE 1 t, σ.tail)) := by show _ = _; rw [← hR, atomF_leaf (k := 1) hsee (by decide) (by decide)]; unfold PS.head; rw [hts]; rfl
  have H0 := Lib.hid h
  have H1 := Lib.hid (h.begin (.cells #[.int .i64 0, .int .i64 0, .string ⟨#[]⟩, .int .i64 0, .slice none 0 0, .slice none 0 0] 43))
  have HS := Lib.hid hsT
  have HTS := Lib.hid hts
  obtain ⟨tk, tp, tx, tn⟩ := t
  have hk1 : tk = 1 := hk
  subst hk1
  have HOK : Hid (tn = 0) := by
    obtain ⟨_, _, _, _, _, _, _, _, _, _, _, _, _, _, hok⟩ := H0.out.rd.head HTS.out
    exact hok.1 (.inl rfl)
  obtain ⟨TX, hTX⟩ : ∃ TX, strB tx = TX := ⟨_, rfl⟩
  have HTX := Lib.hid hTX
  clear h hR hsee hsT hts hst hk hTX
  go_enter Try.func105, Try.ntmps105
  go_upto_region 4 with (go_at_call 106; refine (c_atomic H1.out HS.out).mono ?_; clear H1 HS; rintro e w1 ⟨rfl, H1, ho1⟩; clear ho1; replace H1 := Lib.hid H1)
  obtain ⟨i, b, off, h0', hi, hd, ha, hbR, hb, q0, q1, q2, q3, _, _⟩ := H1.out.rd.head HTS.out
  obtain ⟨_, _, _, _, _⟩ := five_cells hb
  obtain ⟨_, _, _, _, _⟩ := five_frozen hb
  have T9 : ∀ W, Sem.run Try.prog (Instr.indexAt 81 (.slice (some ⟨b, off, none⟩) c.ts.length c.cp) (.int .i64 (i : Int))) W = .ok (.pointer (some ⟨b, off + i * 4, none⟩)) W := fun W => by go_simp
  have hR9 := H1.out.rd.lt
  have hb9 : b < w1.heap.size := by omega
  have hne : b ≠ c.R := by omega
  dsimp only at q0 q1 q2 q3
  have hTX := HTX.out
  rw [hTX] at q2
  obtain ⟨hs1, hs2, hs3⟩ := H1.out.stepTok HTS.out h0' hd hi ha hb [.int .i64 (1 : Int), .int .i64 (tp : Int), .string TX, .int .i64 (tn : Int)]
  replace H1 := Lib.hid hs1
  have HX := Lib.hid hs3
  clear hb hd ha h0' hTX hs1 hs2 hs3
  go_region
  go_upto_region 6 with (fail)
  obtain ⟨w5, hw5⟩ : ∃ w5, ((w1.setCell ⟨c.R, 1, none⟩ (.int .i64 ((i : Int) + 1))).alloc (.cells #[.int .i64 (1 : Int), .int .i64 (tp : Int), .string TX, .int .i64 (tn : Int)] 103)).drew = w5 := ⟨_, rfl⟩
  rw [hw5] at H1 HX ⊢
  clear hw5 q0 q1 q2 q3 T9
  obtain ⟨_, _, _, _⟩ := four_cells HX.out
  have hX5 := HX.out.lt
  have hb4 := H1.out.res hR0
  obtain ⟨_, _, _, _, _, _⟩ := six_cells hb4
  obtain ⟨_, _, _, _, _, _⟩ := six_frozen hb4
  have hW1 := hb4.lt
  clear hb4
  go_wp2_with fail
  refine bodyPost_ret (v := .agg #[.int .i64 1, .int .i64 (tp : Int), .string TX, .int .i64 0, .slice none 0 0, .slice none 0 0]) (by simp only [results, Try.results105]; go_simp <;> rfl) rfl ?_
  refine tellsY H0.out H1.out (by repeat (first | with_reducible exact Nb.refl _ _ | with_reducible refine Nb.set ?_ _ _ | with_reducible refine Nb.alloc ?_ _)) (by rw [HR.out]) _ (fun _ => by rw [HR.out]) ?_
  rw [← HTX.out]
  have := HOK.out
  unfold leafE
  rw [if_neg (by decide)]
  exact (show IsV _ _ (exC (.mk 1 tp tx tn [] [])) _ from by rw [show (tn : Int) = 0 by rw [HOK.out]; rfl]; exact IsV.of_ex (.e _ _ _) (.e _ _ _))

set_option maxRecDepth 100000 in
set_option maxHeartbeats 4000000 in
theorem c_atom_con {c : Px} {X : PS → Ex × PS} {W0 W : World} {σ : PS} (h : Cay c W0 W σ) (hsee : σ.sees sCon = true) {R : Ex × PS} (hR : atomF c.En X σ = R) :
    Calls Try.prog 105 #[.pointer (some ⟨c.R, 0, none⟩)] W (TellsY c W0 W exC R) := by
  have hR0 := h.rd.lt
  have hlen := h.rd.len
  have hcap := h.rd.cap
  obtain ⟨t, r, hts, hst, hk⟩ := sees_head hsee (by decide)
  have hsT : σ.seesAtom = true := by rw [atom_sees]; simp [hsee]
  have HR : Hid (R = (leafE 2 t, σ.tail)) := by show _ = _; rw [← hR, atomF_leaf (k := 2) hsee (by decide) (by decide)]; unfold PS.head; rw [hts]; rfl
  have H0 := Lib.hid h
  have H1 := Lib.hid (h.begin (.cells #[.int .i64 0, .int .i64 0, .string ⟨#[]⟩, .int .i64 0, .slice none 0 0, .slice none 0 0] 43))
  have HS := Lib.hid hsT
  have HTS := Lib.hid hts
  obtain ⟨tk, tp, tx, tn⟩ := t
  have hk1 : tk = 2 := hk
  subst hk1
  have HOK : Hid (tn = 0) := by
    obtain ⟨_, _, _, _, _, _, _, _, _, _, _, _, _, _, hok⟩ := H0.out.rd.head HTS.out
    exact hok.1 (.inr rfl)
  obtain ⟨TX, hTX⟩ : ∃ TX, strB tx = TX := ⟨_, rfl⟩
  have HTX := Lib.hid hTX
  clear h hR hsee hsT hts hst hk hTX
  go_enter Try.func105, Try.ntmps105
  go_upto_region 4 with (go_at_call 106; refine (c_atomic H1.out HS.out).mono ?_; clear H1 HS; rintro e w1 ⟨rfl, H1, ho1⟩; clear ho1; replace H1 := Lib.hid H1)
  obtain ⟨i, b, off, h0', hi, hd, ha, hbR, hb, q0, q1, q2, q3, _, _⟩ := H1.out.rd.head HTS.out
  obtain ⟨_, _, _, _, _⟩ := five_cells hb
  obtain ⟨_, _, _, _, _⟩ := five_frozen hb
  have T9 : ∀ W, Sem.run Try.prog (Instr.indexAt 81 (.slice (some ⟨b, off, none⟩) c.ts.length c.cp) (.int .i64 (i : Int))) W = .ok (.pointer (some ⟨b, off + i * 4, none⟩)) W := fun W => by go_simp
  have hR9 := H1.out.rd.lt
  have hb9 : b < w1.heap.size := by omega
  have hne : b ≠ c.R := by omega
  dsimp only at q0 q1 q2 q3
  have hTX := HTX.out
  rw [hTX] at q2
  obtain ⟨hs1, hs2, hs3⟩ := H1.out.stepTok HTS.out h0' hd hi ha hb [.int .i64 (2 : Int), .int .i64 (tp : Int), .string TX, .int .i64 (tn : Int)]
  replace H1 := Lib.hid hs1
  have HX := Lib.hid hs3
  clear hb hd ha h0' hTX hs1 hs2 hs3
  go_region
  go_upto_region 6 with (fail)
  obtain ⟨w5, hw5⟩ : ∃ w5, ((w1.setCell ⟨c.R, 1, none⟩ (.int .i64 ((i : Int) + 1))).alloc (.cells #[.int .i64 (2 : Int), .int .i64 (tp : Int), .string TX, .int .i64 (tn : Int)] 103)).drew = w5 := ⟨_, rfl⟩
  rw [hw5] at H1 HX ⊢
  clear hw5 q0 q1 q2 q3 T9
  obtain ⟨_, _, _, _⟩ := four_cells HX.out
  have hX5 := HX.out.lt
  have hb4 := H1.out.res hR0
  obtain ⟨_, _, _, _, _, _⟩ := six_cells hb4
  obtain ⟨_, _, _, _, _, _⟩ := six_frozen hb4
  have hW1 := hb4.lt
  clear hb4
  go_wp2_with fail
  refine bodyPost_ret (v := .agg #[.int .i64 2, .int .i64 (tp : Int), .string TX, .int .i64 0, .slice none 0 0, .slice none 0 0]) (by simp only [results, Try.results105]; go_simp <;> rfl) rfl ?_
  refine tellsY H0.out H1.out (by repeat (first | with_reducible exact Nb.refl _ _ | with_reducible refine Nb.set ?_ _ _ | with_reducible refine Nb.alloc ?_ _)) (by rw [HR.out]) _ (fun _ => by rw [HR.out]) ?_
  rw [← HTX.out]
  unfold leafE
  rw [if_neg (by decide)]
  exact (show IsV _ _ (exC (.mk 2 tp tx tn [] [])) _ from by rw [show (tn : Int) = 0 by rw [HOK.out]; rfl]; exact IsV.of_ex (.e _ _ _) (.e _ _ _))

set_option maxRecDepth 100000 in
set_option maxHeartbeats 4000000 in
theorem c_atom_int {c : Px} {X : PS → Ex × PS} {W0 W : World} {σ : PS} (h : Cay c W0 W σ) (hsee : σ.sees sInt = true) {R : Ex × PS} (hR : atomF c.En X σ = R) :
    Calls Try.prog 105 #[.pointer (some ⟨c.R, 0, none⟩)] W (TellsY c W0 W exC R) := by
  have hR0 := h.rd.lt
  have hlen := h.rd.len
  have hcap := h.rd.cap
  obtain ⟨t, r, hts, hst, hk⟩ := sees_head hsee (by decide)
  have hsT : σ.seesAtom = true := by rw [atom_sees]; simp [hsee]
  have HR : Hid (R = (leafE 3 t, σ.tail)) := by show _ = _; rw [← hR, atomF_leaf (k := 3) hsee (by decide) (by decide)]; unfold PS.head; rw [hts]; rfl
  have H0 := Lib.hid h
  have H1 := Lib.hid (h.begin (.cells #[.int .i64 0, .int .i64 0, .string ⟨#[]⟩, .int .i64 0, .slice none 0 0, .slice none 0 0] 43))
  have HS := Lib.hid hsT
  have HTS := Lib.hid hts
  obtain ⟨tk, tp, tx, tn⟩ := t
  have hk1 : tk = 3 := hk
  subst hk1
  have HOK : Hid (tx = []) := by
    obtain ⟨_, _, _, _, _, _, _, _, _, _, _, _, _, _, hok⟩ := H0.out.rd.head HTS.out
    exact hok.2 rfl
  obtain ⟨TX, hTX⟩ : ∃ TX, strB tx = TX := ⟨_, rfl⟩
  have HTX := Lib.hid hTX
  clear h hR hsee hsT hts hst hk hTX
  go_enter Try.func105, Try.ntmps105
  go_upto_region 4 with (go_at_call 106; refine (c_atomic H1.out HS.out).mono ?_; clear H1 HS; rintro e w1 ⟨rfl, H1, ho1⟩; clear ho1; replace H1 := Lib.hid H1)
  obtain ⟨i, b, off, h0', hi, hd, ha, hbR, hb, q0, q1, q2, q3, _, _⟩ := H1.out.rd.head HTS.out
  obtain ⟨_, _, _, _, _⟩ := five_cells hb
  obtain ⟨_, _, _, _, _⟩ := five_frozen hb
  have T9 : ∀ W, Sem.run Try.prog (Instr.indexAt 81 (.slice (some ⟨b, off, none⟩) c.ts.length c.cp) (.int .i64 (i : Int))) W = .ok (.pointer (some ⟨b, off + i * 4, none⟩)) W := fun W => by go_simp
  have hR9 := H1.out.rd.lt
  have hb9 : b < w1.heap.size := by omega
  have hne : b ≠ c.R := by omega
  dsimp only at q0 q1 q2 q3
  have hTX := HTX.out
  rw [hTX] at q2
  obtain ⟨hs1, hs2, hs3⟩ := H1.out.stepTok HTS.out h0' hd hi ha hb [.int .i64 (3 : Int), .int .i64 (tp : Int), .string TX, .int .i64 (tn : Int)]
  replace H1 := Lib.hid hs1
  have HX := Lib.hid hs3
  clear hb hd ha h0' hTX hs1 hs2 hs3
  go_region
  go_upto_region 6 with (fail)
  obtain ⟨w5, hw5⟩ : ∃ w5, ((w1.setCell ⟨c.R, 1, none⟩ (.int .i64 ((i : Int) + 1))).alloc (.cells #[.int .i64 (3 : Int), .int .i64 (tp : Int), .string TX, .int .i64 (tn : Int)] 103)).drew = w5 := ⟨_, rfl⟩
  rw [hw5] at H1 HX ⊢
  clear hw5 q0 q1 q2 q3 T9
  obtain ⟨_, _, _, _⟩ := four_cells HX.out
  have hX5 := HX.out.lt
  have hb4 := H1.out.res hR0
  obtain ⟨_, _, _, _, _, _⟩ := six_cells hb4
  obtain ⟨_, _, _, _, _, _⟩ := six_frozen hb4
  have hW1 := hb4.lt
  clear hb4
  go_wp2_with fail
  refine bodyPost_ret (v := .agg #[.int .i64 3, .int .i64 (tp : Int), .string ⟨#[]⟩, .int .i64 (tn : Int), .slice none 0 0, .slice none 0 0]) (by simp only [results, Try.results105]; go_simp <;> rfl) rfl ?_
  refine tellsY H0.out H1.out (by repeat (first | with_reducible exact Nb.refl _ _ | with_reducible refine Nb.set ?_ _ _ | with_reducible refine Nb.alloc ?_ _)) (by rw [HR.out]) _ (fun _ => by rw [HR.out]) ?_
  unfold leafE
  rw [if_neg (by decide)]
  exact (show IsV _ _ (exC (.mk 3 tp tx tn [] [])) _ from by rw [HOK.out]; exact IsV.of_ex (s := []) (.e _ _ _) (.e _ _ _))

end Go.Proofs.Ytgkeblpjmfdhkaa
