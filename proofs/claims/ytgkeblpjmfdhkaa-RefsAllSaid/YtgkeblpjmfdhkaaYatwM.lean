/- The document's parser: atom, true and false; no atom. -/
import Derived.Test.YtgkeblpjmfdhkaaYatmM
import Derived.Test.YtgkeblpjmfdhkaaYgfM
namespace Go.Proofs.Ytgkeblpjmfdhkaa
open Go.RowKit Go.Maps
set_option linter.unusedVariables false
set_option linter.unusedSimpArgs false

set_option maxRecDepth 100000 in
set_option maxHeartbeats 4000000 in
theorem c_atom_true {c : Px} {X : PS → Ex × PS} {W0 W : World} {σ : PS} (h : Cay c W0 W σ) (hsee : σ.sees (sW tTrue) = true) {R : Ex × PS} (hR : atomF c.En X σ = R) :
    Calls Try.prog 105 #[.pointer (some ⟨c.R, 0, none⟩)] W (TellsY c W0 W exC R) := by
  have hR0 := h.rd.lt
  have hlen := h.rd.len
  have hcap := h.rd.cap
  obtain ⟨t, r, hts, hst, hk⟩ := sees_head hsee (by decide)
  have hsT : σ.seesAtom = true := by rw [atom_sees]; simp [hsee]
  have HR : Hid (R = (leafE 4 t, σ.tail)) := by show _ = _; rw [← hR, atomF_leaf (k := 4) hsee (by decide) (by decide)]; unfold PS.head; rw [hts]; rfl
  have H0 := Lib.hid h
  have H1 := Lib.hid (h.begin (.cells #[.int .i64 0, .int .i64 0, .string ⟨#[]⟩, .int .i64 0, .slice none 0 0, .slice none 0 0] 43))
  have HS := Lib.hid hsT
  have HTS := Lib.hid hts
  obtain ⟨tk, tp, tx, tn⟩ := t
  have hk1 : tk = 4 := hk
  subst hk1
  have hw := srt_s hst (.inl rfl)
  have hx1 : tx = tTrue := hw
  obtain ⟨TX, hTX⟩ : ∃ TX, strB tx = TX := ⟨_, rfl⟩
  have HTX := Lib.hid hTX
  have hz : (TX.toList == [116, 114, 117, 101]) = true := by rw [← hTX, hx1, ByteArray.toList_eq, strB_data]; decide
  have HX1 := Lib.hid hx1
  clear h hR hsee hsT hts hst hk hTX hx1 hw
  go_enter Try.func105, Try.ntmps105
  go_upto_region 4 with (go_at_call 106; refine (c_atomic H1.out HS.out).mono ?_; clear H1 HS; rintro e w1 ⟨rfl, H1, ho1⟩; clear ho1; replace H1 := Lib.hid H1)
  obtain ⟨i, b, off, h0', hi, hd, ha, hbR, hb, q0, q1, q2, q3, _, _⟩ := H1.out.rd.head HTS.out
  obtain ⟨_, _, _, _, _⟩ := five_cells hb
  obtain ⟨_, _, _, _, _⟩ := five_frozen hb
  have T9 : ∀ W, Sem.run Try.prog (Instr.indexAt 81 (.slice (some ⟨b, off, none⟩) c.ts.length c.cp) (.int .i64 (i : Int))) W = .ok (.pointer (some ⟨b, off + i * 4, none⟩)) W := fun W => by go_simp
  have hR9 := H1.out.rd.lt
  have hb9 : b < w1.heap.size := by omega
  have hne : b ≠ c.R := by omega
  dsimp only at q0 q1 q2 q3
  have hTX := HTX.out
  rw [hTX] at q2
  obtain ⟨hs1, hs2, hs3⟩ := H1.out.stepTok HTS.out h0' hd hi ha hb [.int .i64 (4 : Int), .int .i64 (tp : Int), .string TX, .int .i64 (tn : Int)]
  replace H1 := Lib.hid hs1
  have HX := Lib.hid hs3
  clear hb hd ha h0' hTX hs1 hs2 hs3
  go_region
  go_upto_region 6 with (fail)
  obtain ⟨w5, hw5⟩ : ∃ w5, ((w1.setCell ⟨c.R, 1, none⟩ (.int .i64 ((i : Int) + 1))).alloc (.cells #[.int .i64 (4 : Int), .int .i64 (tp : Int), .string TX, .int .i64 (tn : Int)] 103)).drew = w5 := ⟨_, rfl⟩
  rw [hw5] at H1 HX ⊢
  clear hw5 q0 q1 q2 q3 T9
  obtain ⟨_, _, _, _⟩ := four_cells HX.out
  have hX5 := HX.out.lt
  have hb4 := H1.out.res hR0
  obtain ⟨_, _, _, _, _, _⟩ := six_cells hb4
  obtain ⟨_, _, _, _, _, _⟩ := six_frozen hb4
  have hW1 := hb4.lt
  clear hb4
  go_upto_region 15 with (fail)
  obtain ⟨w6, hw6⟩ : ∃ w6, w5.alloc (.cells #[.int .i64 4, .int .i64 (tp : Int), .string ⟨#[]⟩, .int .i64 0, .slice none 0 0, .slice none 0 0] 43) = w6 := ⟨_, rfl⟩
  have HE5 := Box.new w5 43 [.int .i64 4, .int .i64 (tp : Int), .string ⟨#[]⟩, .int .i64 0, .slice none 0 0, .slice none 0 0]
  have HX6 := HX.out.alloc (.cells #[.int .i64 4, .int .i64 (tp : Int), .string ⟨#[]⟩, .int .i64 0, .slice none 0 0, .slice none 0 0] 43)
  replace H1 := Lib.hid (H1.out.alloc (.cells #[.int .i64 4, .int .i64 (tp : Int), .string ⟨#[]⟩, .int .i64 0, .slice none 0 0, .slice none 0 0] 43))
  rw [hw6] at H1 HE5 HX6 ⊢
  clear hw6
  obtain ⟨_, _, _, _⟩ := four_cells HX6
  have HE := Lib.hid HE5
  obtain ⟨_, _, _, _, _, _⟩ := six_cells HE5
  obtain ⟨_, _, _, _, _, _⟩ := six_frozen HE5
  have hlE := HE5.lt
  clear HE5 HX6
  go_upto_region 17 with (fail)
  have HE7 := HE.out.set 3 (.int .i64 1)
  have H7 : Cay c (W.alloc (.cells #[.int .i64 0, .int .i64 0, .string ⟨#[]⟩, .int .i64 0, .slice none 0 0, .slice none 0 0] 43)) (w6.setCell ⟨w5.heap.size, 3, none⟩ (.int .i64 1)) σ.tail := H1.out.put (by simp; omega) 3 _
  obtain ⟨w7, hw7⟩ : ∃ w7, w6.setCell ⟨w5.heap.size, 3, none⟩ (.int .i64 1) = w7 := ⟨_, rfl⟩
  rw [hw7] at HE7 H7 ⊢
  clear hw7
  replace HE7 : Box w7 w5.heap.size 43 [.int .i64 4, .int .i64 (tp : Int), .string ⟨#[]⟩, .int .i64 1, .slice none 0 0, .slice none 0 0] := HE7
  replace H1 := Lib.hid H7
  obtain ⟨_, _, _, _, _, _⟩ := six_cells HE7
  have hlE7 := HE7.lt
  clear H7 HE7
  have hb4 := H1.out.res hR0
  obtain ⟨_, _, _, _, _, _⟩ := six_cells hb4
  obtain ⟨_, _, _, _, _, _⟩ := six_frozen hb4
  have hW6 := hb4.lt
  clear hb4
  go_wp2_with fail
  refine bodyPost_ret (v := .agg #[.int .i64 4, .int .i64 (tp : Int), .string ⟨#[]⟩, .int .i64 1, .slice none 0 0, .slice none 0 0]) (by simp only [results, Try.results105]; go_simp <;> rfl) rfl ?_
  refine tellsY H0.out H1.out (by repeat (first | with_reducible exact Nb.refl _ _ | with_reducible refine Nb.set ?_ _ _)) (by rw [HR.out]) _ (fun _ => by rw [HR.out]) ?_
  unfold leafE
  rw [if_pos rfl, HX1.out]
  exact IsV.of_ex (s := []) (n := 1) (.e _ _ _) (.e _ _ _)

set_option maxRecDepth 100000 in
set_option maxHeartbeats 4000000 in
theorem c_atom_false {c : Px} {X : PS → Ex × PS} {W0 W : World} {σ : PS} (h : Cay c W0 W σ) (hsee : σ.sees (sW tFalse) = true) {R : Ex × PS} (hR : atomF c.En X σ = R) :
    Calls Try.prog 105 #[.pointer (some ⟨c.R, 0, none⟩)] W (TellsY c W0 W exC R) := by
  have hR0 := h.rd.lt
  have hlen := h.rd.len
  have hcap := h.rd.cap
  obtain ⟨t, r, hts, hst, hk⟩ := sees_head hsee (by decide)
  have hsT : σ.seesAtom = true := by rw [atom_sees]; simp [hsee]
  have HR : Hid (R = (leafE 4 t, σ.tail)) := by show _ = _; rw [← hR, atomF_leaf (k := 4) hsee (by decide) (by decide)]; unfold PS.head; rw [hts]; rfl
  have H0 := Lib.hid h
  have H1 := Lib.hid (h.begin (.cells #[.int .i64 0, .int .i64 0, .string ⟨#[]⟩, .int .i64 0, .slice none 0 0, .slice none 0 0] 43))
  have HS := Lib.hid hsT
  have HTS := Lib.hid hts
  obtain ⟨tk, tp, tx, tn⟩ := t
  have hk1 : tk = 4 := hk
  subst hk1
  have hw := srt_s hst (.inl rfl)
  have hx1 : tx = tFalse := hw
  obtain ⟨TX, hTX⟩ : ∃ TX, strB tx = TX := ⟨_, rfl⟩
  have HTX := Lib.hid hTX
  have hz : (TX.toList == [116, 114, 117, 101]) = false := by rw [← hTX, hx1, ByteArray.toList_eq, strB_data]; decide
  have HX1 := Lib.hid hx1
  clear h hR hsee hsT hts hst hk hTX hx1 hw
  go_enter Try.func105, Try.ntmps105
  go_upto_region 4 with (go_at_call 106; refine (c_atomic H1.out HS.out).mono ?_; clear H1 HS; rintro e w1 ⟨rfl, H1, ho1⟩; clear ho1; replace H1 := Lib.hid H1)
  obtain ⟨i, b, off, h0', hi, hd, ha, hbR, hb, q0, q1, q2, q3, _, _⟩ := H1.out.rd.head HTS.out
  obtain ⟨_, _, _, _, _⟩ := five_cells hb
  obtain ⟨_, _, _, _, _⟩ := five_frozen hb
  have T9 : ∀ W, Sem.run Try.prog (Instr.indexAt 81 (.slice (some ⟨b, off, none⟩) c.ts.length c.cp) (.int .i64 (i : Int))) W = .ok (.pointer (some ⟨b, off + i * 4, none⟩)) W := fun W => by go_simp
  have hR9 := H1.out.rd.lt
  have hb9 : b < w1.heap.size := by omega
  have hne : b ≠ c.R := by omega
  dsimp only at q0 q1 q2 q3
  have hTX := HTX.out
  rw [hTX] at q2
  obtain ⟨hs1, hs2, hs3⟩ := H1.out.stepTok HTS.out h0' hd hi ha hb [.int .i64 (4 : Int), .int .i64 (tp : Int), .string TX, .int .i64 (tn : Int)]
  replace H1 := Lib.hid hs1
  have HX := Lib.hid hs3
  clear hb hd ha h0' hTX hs1 hs2 hs3
  go_region
  go_upto_region 6 with (fail)
  obtain ⟨w5, hw5⟩ : ∃ w5, ((w1.setCell ⟨c.R, 1, none⟩ (.int .i64 ((i : Int) + 1))).alloc (.cells #[.int .i64 (4 : Int), .int .i64 (tp : Int), .string TX, .int .i64 (tn : Int)] 103)).drew = w5 := ⟨_, rfl⟩
  rw [hw5] at H1 HX ⊢
  clear hw5 q0 q1 q2 q3 T9
  obtain ⟨_, _, _, _⟩ := four_cells HX.out
  have hX5 := HX.out.lt
  have hb4 := H1.out.res hR0
  obtain ⟨_, _, _, _, _, _⟩ := six_cells hb4
  obtain ⟨_, _, _, _, _, _⟩ := six_frozen hb4
  have hW1 := hb4.lt
  clear hb4
  go_upto_region 15 with (fail)
  obtain ⟨w6, hw6⟩ : ∃ w6, w5.alloc (.cells #[.int .i64 4, .int .i64 (tp : Int), .string ⟨#[]⟩, .int .i64 0, .slice none 0 0, .slice none 0 0] 43) = w6 := ⟨_, rfl⟩
  have HE5 := Box.new w5 43 [.int .i64 4, .int .i64 (tp : Int), .string ⟨#[]⟩, .int .i64 0, .slice none 0 0, .slice none 0 0]
  have HX6 := HX.out.alloc (.cells #[.int .i64 4, .int .i64 (tp : Int), .string ⟨#[]⟩, .int .i64 0, .slice none 0 0, .slice none 0 0] 43)
  replace H1 := Lib.hid (H1.out.alloc (.cells #[.int .i64 4, .int .i64 (tp : Int), .string ⟨#[]⟩, .int .i64 0, .slice none 0 0, .slice none 0 0] 43))
  rw [hw6] at H1 HE5 HX6 ⊢
  clear hw6
  obtain ⟨_, _, _, _⟩ := four_cells HX6
  have HE := Lib.hid HE5
  obtain ⟨_, _, _, _, _, _⟩ := six_cells HE5
  obtain ⟨_, _, _, _, _, _⟩ := six_frozen HE5
  have hlE := HE5.lt
  clear HE5 HX6
  have hb4 := H1.out.res hR0
  obtain ⟨_, _, _, _, _, _⟩ := six_cells hb4
  obtain ⟨_, _, _, _, _, _⟩ := six_frozen hb4
  have hW6 := hb4.lt
  clear hb4
  go_wp2_with fail
  refine bodyPost_ret (v := .agg #[.int .i64 4, .int .i64 (tp : Int), .string ⟨#[]⟩, .int .i64 0, .slice none 0 0, .slice none 0 0]) (by simp only [results, Try.results105]; go_simp <;> rfl) rfl ?_
  refine tellsY H0.out H1.out (by repeat (first | with_reducible exact Nb.refl _ _ | with_reducible refine Nb.set ?_ _ _)) (by rw [HR.out]) _ (fun _ => by rw [HR.out]) ?_
  unfold leafE
  rw [if_pos rfl, HX1.out]
  exact IsV.of_ex (s := []) (n := 0) (.e _ _ _) (.e _ _ _)

set_option maxRecDepth 100000 in
set_option maxHeartbeats 4000000 in
theorem c_atom_no {c : Px} {W0 W : World} {σ : PS} (h : Cay c W0 W σ) (hsee : σ.seesAtom = false) {R : Ex × PS} (hR : ((Ex.zero, σ.stop c.En) : Ex × PS) = R) :
    Calls Try.prog 105 #[.pointer (some ⟨c.R, 0, none⟩)] W (TellsY c W0 W exC R) := by
  have hR0 := h.rd.lt
  have HR : Hid (R = (Ex.zero, σ.stop c.En)) := Lib.hid hR.symm
  have H0 := Lib.hid h
  have H1 := Lib.hid (h.begin (.cells #[.int .i64 0, .int .i64 0, .string ⟨#[]⟩, .int .i64 0, .slice none 0 0, .slice none 0 0] 43))
  have HS := Lib.hid hsee
  clear h hR hsee
  go_enter Try.func105, Try.ntmps105
  go_wp2_with (first
    | (go_at_call 106; refine (c_atomic H1.out HS.out).mono ?_; clear H1 HS; rintro e w1 ⟨rfl, H1, ho1⟩; clear ho1; replace H1 := Lib.hid H1)
    | (go_at_call 101; refine (c_fail H1.out).mono ?_; clear H1; rintro e w2 ⟨rfl, H1, ho1⟩; clear ho1; have hb4 := H1.res hR0; obtain ⟨_, _, _, _, _, _⟩ := six_cells hb4; obtain ⟨_, _, _, _, _, _⟩ := six_frozen hb4; clear hb4; replace H1 := Lib.hid H1))
  refine bodyPost_ret (v := .agg #[.int .i64 0, .int .i64 0, .string ⟨#[]⟩, .int .i64 0, .slice none 0 0, .slice none 0 0]) (by simp only [results, Try.results105]; go_simp <;> rfl) rfl ?_
  refine tellsY H0.out H1.out (by repeat (first | with_reducible exact Nb.refl _ _ | with_reducible refine Nb.set ?_ _ _ | with_reducible refine Nb.alloc ?_ _)) (by rw [HR.out]) _ (fun _ => by rw [HR.out]) ?_
  exact zero_ex _ _

end Go.Proofs.Ytgkeblpjmfdhkaa
