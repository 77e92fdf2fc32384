/- The document's parser: expr, if. -/
import Derived.Test.YtgkeblpjmfdhkaaYxbM
namespace Go.Proofs.Ytgkeblpjmfdhkaa
open Go.RowKit Go.Maps
set_option linter.unusedVariables false
set_option linter.unusedSimpArgs false

set_option maxRecDepth 100000 in
set_option maxHeartbeats 8000000 in
theorem c_expr_if {c : Px} {n : Nat} {X : PS → Ex × PS} (HONE : ∀ (W0 W : World) (τ : PS), Cay c W0 W τ → τ.ts.length < n → Calls Try.prog 57 #[.pointer (some ⟨c.R, 0, none⟩)] W (TellsY c W0 W exC (X τ))) (hdec : Dec X) (HM : Hid (∀ τ, (X τ).2.st = false → τ.st = false))
    {W0 W : World} {σ : PS} (h : Cay c W0 W σ) (hlen : σ.ts.length ≤ n) (hsee : σ.sees (sW tIf) = true) {R : Ex × PS} (hR : choiceF c.En X σ = R) :
    Calls Try.prog 57 #[.pointer (some ⟨c.R, 0, none⟩)] W (TellsY c W0 W exC R) := by
  have hR0 := h.rd.lt
  have hlenc := h.rd.len
  have hcap := h.rd.cap
  have hshort := h.rd.short
  have hR1 : c.R < (W.alloc (.cells #[.int .i64 0, .int .i64 0, .string ⟨#[]⟩, .int .i64 0, .slice none 0 0, .slice none 0 0] 43)).heap.size := by simp; omega
  have hWs : (W.alloc (.cells #[.int .i64 0, .int .i64 0, .string ⟨#[]⟩, .int .i64 0, .slice none 0 0, .slice none 0 0] 43)).heap.size = W.heap.size + 1 := by simp
  obtain ⟨t, r, hts⟩ := ts_cons (sees_pos hsee (by decide))
  have hnext : σ.next = sW tIf := of_decide_eq_true hsee
  obtain ⟨A, hA⟩ : ∃ A, σ.take c.En (sW tIf) = A := ⟨_, rfl⟩
  have hA2 : A = (t, σ.tail) := by rw [← hA, tail_take hsee]; unfold PS.head; rw [hts]; rfl
  subst hA2
  obtain ⟨E1, hE1⟩ : ∃ E1, X σ.tail = E1 := ⟨_, rfl⟩
  obtain ⟨B, hB⟩ : ∃ B, E1.2.take c.En (sW tThen) = B := ⟨_, rfl⟩
  obtain ⟨E2, hE2⟩ : ∃ E2, X B.2 = E2 := ⟨_, rfl⟩
  obtain ⟨D, hD⟩ : ∃ D, E2.2.take c.En (sW tElse) = D := ⟨_, rfl⟩
  obtain ⟨E3, hE3⟩ : ∃ E3, X D.2 = E3 := ⟨_, rfl⟩
  have l1 : σ.tail.ts.length < σ.ts.length := by rw [tail_len, hts]; simp
  have l2 : E1.2.ts.length ≤ σ.tail.ts.length := by rw [← hE1]; exact hdec _
  have l3 : B.2.ts.length ≤ E1.2.ts.length := by rw [← hB]; exact take_len _ _ _
  have l4 : E2.2.ts.length ≤ B.2.ts.length := by rw [← hE2]; exact hdec _
  have l5 : D.2.ts.length ≤ E2.2.ts.length := by rw [← hD]; exact take_len _ _ _
  have HR : Hid (R = (.mk 9 t.p [] 0 [E1.1, E2.1, E3.1] [], E3.2)) := by show _ = _; rw [← hR]; unfold choiceF; rw [hA]; dsimp only; rw [hE1, hB, hE2, hD, hE3]
  have HY1 : Hid (∀ (W0 W : World), Cay c W0 W σ.tail → Calls Try.prog 57 #[.pointer (some ⟨c.R, 0, none⟩)] W (TellsY c W0 W exC E1)) := fun W0 W hc => hE1 ▸ HONE W0 W σ.tail hc (by omega)
  have HY2 : Hid (∀ (W0 W : World), Cay c W0 W B.2 → Calls Try.prog 57 #[.pointer (some ⟨c.R, 0, none⟩)] W (TellsY c W0 W exC E2)) := fun W0 W hc => hE2 ▸ HONE W0 W B.2 hc (by omega)
  have HY3 : Hid (∀ (W0 W : World), Cay c W0 W D.2 → Calls Try.prog 57 #[.pointer (some ⟨c.R, 0, none⟩)] W (TellsY c W0 W exC E3)) := fun W0 W hc => hE3 ▸ HONE W0 W D.2 hc (by omega)
  have HQ1 : Hid (E3.2.st = false → E2.2.st = false) := fun e => PS.take_st (by rw [hD]; exact HM.out _ (by rw [hE3]; exact e))
  have HQ2 : Hid (E2.2.st = false → E1.2.st = false) := fun e => PS.take_st (by rw [hB]; exact HM.out _ (by rw [hE2]; exact e))
  have HSK : Hid (σ.skip (sS tBack) = (false, σ)) := by show _ = _; unfold PS.skip; rw [if_neg (by unfold PS.sees; rw [hnext]; decide)]
  have HS1 : Hid (σ.sees (sW tLet) = false) := by show _ = _; unfold PS.sees; rw [hnext]; decide
  have HS2 : Hid (σ.sees (sW tIf) = true) := hsee
  have HB := Lib.hid hB
  have HD := Lib.hid hD
  obtain ⟨tk, tp, tx, tn⟩ := t
  obtain ⟨TX, hTX⟩ : ∃ TX, strB tx = TX := ⟨_, rfl⟩
  have HTX := Lib.hid hTX
  have H0 := Lib.hid h
  have HTS := Lib.hid hts
  have HDC := Lib.hid hdec
  have H1 := Lib.hid (h.begin (.cells #[.int .i64 0, .int .i64 0, .string ⟨#[]⟩, .int .i64 0, .slice none 0 0, .slice none 0 0] 43))
  obtain ⟨i, b, off, h0', hi, hd, ha, hbR, hb, _, _, _, _, _, _⟩ := H1.out.rd.head HTS.out
  obtain ⟨_, _, _, _, _⟩ := five_cells hb
  have hge : decide ((c.ts.length : Int) ≤ (i : Int)) = false := decide_eq_false (by omega)
  have hge2 : decide (c.ts.length ≤ i) = false := decide_eq_false (by omega)
  clear h hR hdec hts hTX hb hd ha h0' HONE hA hB hD hE1 hE2 hE3 hnext l1 l2 l3 l4 l5 hsee hlen HM
  go_enter Try.func57, Try.ntmps57
  go_upto_region 1 with (fail)
  go_quiet (fail)
  go_upto_region 4 with (fail)
  replace H1 := Lib.hid (H1.out.drewN nq)
  obtain ⟨w1, hw1⟩ : ∃ w1, World.drewN (W.alloc (.cells #[.int .i64 0, .int .i64 0, .string ⟨#[]⟩, .int .i64 0, .slice none 0 0, .slice none 0 0] 43)) nq = w1 := ⟨_, rfl⟩
  have hsz1 : W.heap.size + 1 = w1.heap.size := by rw [← hw1]; exact hWs.symm
  rw [hw1] at H1 ⊢
  clear hw1 hge hge2 hbR hi
  obtain ⟨i, b, off, h0', hi, hd, ha, hbR, hb, q0, q1, q2, q3, _, _⟩ := H1.out.rd.head HTS.out
  obtain ⟨_, _, _, _, _⟩ := five_cells hb
  have T9 : ∀ W, Sem.run Try.prog (Instr.indexAt 81 (.slice (some ⟨b, off, none⟩) c.ts.length c.cp) (.int .i64 (i : Int))) W = .ok (.pointer (some ⟨b, off + i * 4, none⟩)) W := fun W => by go_simp
  have hR9 := H1.out.rd.lt
  have hb9 : b < w1.heap.size := by omega
  dsimp only at q0 q1 q2 q3
  have hTX := HTX.out
  rw [hTX] at q2
  clear hb hd ha h0' hTX
  go_region
  go_upto_region 5 with (fail)
  have HX : Hid (Box (w1.alloc (.cells #[.int .i64 (tk : Int), .int .i64 (tp : Int), .string TX, .int .i64 (tn : Int)] 103)).drew w1.heap.size 103 [.int .i64 (tk : Int), .int .i64 (tp : Int), .string TX, .int .i64 (tn : Int)]) := Box.new w1 103 [.int .i64 (tk : Int), .int .i64 (tp : Int), .string TX, .int .i64 (tn : Int)]
  replace H1 := Lib.hid (H1.out.alloc (.cells #[.int .i64 (tk : Int), .int .i64 (tp : Int), .string TX, .int .i64 (tn : Int)] 103)).drew
  obtain ⟨w5, hw5⟩ : ∃ w5, (w1.alloc (.cells #[.int .i64 (tk : Int), .int .i64 (tp : Int), .string TX, .int .i64 (tn : Int)] 103)).drew = w5 := ⟨_, rfl⟩
  obtain ⟨tb, htb⟩ : ∃ tb, w1.heap.size = tb := ⟨_, rfl⟩
  rw [hw5, htb] at HX
  rw [hw5] at H1 ⊢
  rw [htb] at hR9 hsz1
  try rw [htb]
  have hXn : ¬ (tb = c.R) := by omega
  have hXW : tb ≠ W.heap.size := by omega
  clear q0 q1 q2 q3 T9 hbR hi hb9 hw5 htb
  go_upto_region 19 with (first
    | (go_at_call 55; refine (c_try H1.out tBack (askS (by decide) (by decide)) rfl HSK.out).mono ?_; clear H1 HSK; rintro e w6 ⟨rfl, H1, ho1⟩; (try (replace HX := Lib.hid (ho1.box HX.out hXn))); clear ho1; replace H1 := Lib.hid H1)
    | (go_at_call 50; refine (c_peek H1.out (sW tLet) (askW (by decide) (by decide)) rfl rfl HS1.out).mono ?_; clear H1 HS1; rintro e w7 ⟨rfl, H1, ho1⟩; (try (replace HX := Lib.hid (ho1.box HX.out hXn))); clear ho1; replace H1 := Lib.hid H1)
    | (go_at_call 50; refine (c_peek H1.out (sW tIf) (askW (by decide) (by decide)) rfl rfl HS2.out).mono ?_; clear H1 HS2; rintro e w8 ⟨rfl, H1, ho1⟩; (try (replace HX := Lib.hid (ho1.box HX.out hXn))); clear ho1; replace H1 := Lib.hid H1))
  obtain ⟨i, b, off, h0', hi, hd, ha, hbR, hb, _, _, _, _, _, _⟩ := H1.out.rd.head HTS.out
  obtain ⟨_, _, _, _, _⟩ := five_cells hb
  obtain ⟨_, _, _, _, _⟩ := five_frozen hb
  obtain ⟨hs1, hs2⟩ := H1.out.step HTS.out h0' hd hi ha hb (Below.refl _ _)
  replace HX := Lib.hid (hs2.box HX.out hXn)
  replace H1 := Lib.hid hs1
  clear hb hd ha h0' hs1 hs2
  go_upto_region 24 with (first
    | (go_at_call 57; refine (HY1.out _ _ H1.out).mono ?_; clear H1 HY1; rintro e wx ⟨v1, xx, rfl, hv1, hx1, H1, ho1⟩; obtain ⟨x0, x1, x2, x3, x4, x5, x6, x7, x8, x9, xhz, _⟩ := hv1.exs; subst xhz; have HTx := Lib.hid hx1; (try (replace HX := Lib.hid (ho1.box HX.out hXn))); (try (replace HX := Lib.hid (HX.out.alloc (.cells #[.int .i64 x0, .int .i64 x1, .string (strB x3), .int .i64 x2, .slice x4 x6 x8, .slice x5 x7 x9] 43)))); have hlx := H1.size; have hBxn : ¬ (wx.heap.size = c.R) := (by have := H1.rd.lt; omega); have HBx := Lib.hid (Box.new wx 43 [.int .i64 x0, .int .i64 x1, .string (strB x3), .int .i64 x2, .slice x4 x6 x8, .slice x5 x7 x9]); have HVx := Lib.hid (hv1.under ((Below.refl _ wx).alloc (Nat.le_refl _) (.cells #[.int .i64 x0, .int .i64 x1, .string (strB x3), .int .i64 x2, .slice x4 x6 x8, .slice x5 x7 x9] 43))); clear ho1 hv1 hx1; replace H1 := Lib.hid (H1.alloc (.cells #[.int .i64 x0, .int .i64 x1, .string (strB x3), .int .i64 x2, .slice x4 x6 x8, .slice x5 x7 x9] 43)))
    | (go_at_call 51; refine (c_eat H1.out (sW tThen) (askW (by decide) (by decide)) (by decide) rfl rfl HB.out).mono ?_; clear H1 HB; rintro e w9 ⟨rfl, H1, ho1⟩; (try (replace HX := Lib.hid (ho1.box HX.out hXn))); (try (replace HBx := Lib.hid (ho1.box HBx.out hBxn))); (try (replace HVx := Lib.hid (stay ho1 hR1 HVx.out))); (try (replace HBy := Lib.hid (ho1.box HBy.out hByn))); (try (replace HVy := Lib.hid (stay ho1 hR1 HVy.out))); clear ho1; replace H1 := Lib.hid H1)
    | (go_at_call 57; refine (HY2.out _ _ H1.out).mono ?_; clear H1 HY2; rintro e wy ⟨v1, xy, rfl, hv1, hx1, H1, ho1⟩; obtain ⟨y0, y1, y2, y3, y4, y5, y6, y7, y8, y9, yhz, _⟩ := hv1.exs; subst yhz; have HTy := Lib.hid hx1; (try (replace HX := Lib.hid (ho1.box HX.out hXn))); (try (replace HBx := Lib.hid (ho1.box HBx.out hBxn))); (try (replace HVx := Lib.hid (stay ho1 hR1 HVx.out))); (try (replace HBy := Lib.hid (ho1.box HBy.out hByn))); (try (replace HVy := Lib.hid (stay ho1 hR1 HVy.out))); (try (replace HX := Lib.hid (HX.out.alloc (.cells #[.int .i64 y0, .int .i64 y1, .string (strB y3), .int .i64 y2, .slice y4 y6 y8, .slice y5 y7 y9] 43)))); (try (replace HBx := Lib.hid (HBx.out.alloc (.cells #[.int .i64 y0, .int .i64 y1, .string (strB y3), .int .i64 y2, .slice y4 y6 y8, .slice y5 y7 y9] 43)))); (try (replace HVx := Lib.hid (HVx.out.under ((Below.refl _ wy).alloc (Nat.le_refl _) (.cells #[.int .i64 y0, .int .i64 y1, .string (strB y3), .int .i64 y2, .slice y4 y6 y8, .slice y5 y7 y9] 43))))); (try (replace HBy := Lib.hid (HBy.out.alloc (.cells #[.int .i64 y0, .int .i64 y1, .string (strB y3), .int .i64 y2, .slice y4 y6 y8, .slice y5 y7 y9] 43)))); (try (replace HVy := Lib.hid (HVy.out.under ((Below.refl _ wy).alloc (Nat.le_refl _) (.cells #[.int .i64 y0, .int .i64 y1, .string (strB y3), .int .i64 y2, .slice y4 y6 y8, .slice y5 y7 y9] 43))))); have hly := H1.size; have hByn : ¬ (wy.heap.size = c.R) := (by have := H1.rd.lt; omega); have HBy := Lib.hid (Box.new wy 43 [.int .i64 y0, .int .i64 y1, .string (strB y3), .int .i64 y2, .slice y4 y6 y8, .slice y5 y7 y9]); have HVy := Lib.hid (hv1.under ((Below.refl _ wy).alloc (Nat.le_refl _) (.cells #[.int .i64 y0, .int .i64 y1, .string (strB y3), .int .i64 y2, .slice y4 y6 y8, .slice y5 y7 y9] 43))); clear ho1 hv1 hx1; replace H1 := Lib.hid (H1.alloc (.cells #[.int .i64 y0, .int .i64 y1, .string (strB y3), .int .i64 y2, .slice y4 y6 y8, .slice y5 y7 y9] 43)))
    | (go_at_call 51; refine (c_eat H1.out (sW tElse) (askW (by decide) (by decide)) (by decide) rfl rfl HD.out).mono ?_; clear H1 HD; rintro e w9 ⟨rfl, H1, ho1⟩; (try (replace HX := Lib.hid (ho1.box HX.out hXn))); (try (replace HBx := Lib.hid (ho1.box HBx.out hBxn))); (try (replace HVx := Lib.hid (stay ho1 hR1 HVx.out))); (try (replace HBy := Lib.hid (ho1.box HBy.out hByn))); (try (replace HVy := Lib.hid (stay ho1 hR1 HVy.out))); obtain ⟨_, _, _, _, _, _⟩ := six_cells HBx.out; obtain ⟨_, _, _, _, _, _⟩ := six_cells HBy.out; obtain ⟨_, _, _, _⟩ := four_cells HX.out; have hclx := HBx.out.lt; have hcly := HBy.out.lt; have hclt := HX.out.lt; clear ho1; replace H1 := Lib.hid H1))
  have HS0 := Lib.hid (And.intro (six_cells (Box.drew HBx.out)) (And.intro (six_cells (Box.drew HBy.out)) (four_cells (Box.drew HX.out)).2.1))
  have hnrX : wx.heap.size ≠ W.heap.size := by omega
  have hnrY : wy.heap.size ≠ W.heap.size := by omega
  go_region_held3 (fun w' => (w'.cell? ⟨wx.heap.size, 0, none⟩ = some (.int .i64 x0) ∧ w'.cell? ⟨wx.heap.size, 1, none⟩ = some (.int .i64 x1) ∧ w'.cell? ⟨wx.heap.size, 2, none⟩ = some (.string (strB x3)) ∧ w'.cell? ⟨wx.heap.size, 3, none⟩ = some (.int .i64 x2) ∧ w'.cell? ⟨wx.heap.size, 4, none⟩ = some (.slice x4 x6 x8) ∧ w'.cell? ⟨wx.heap.size, 5, none⟩ = some (.slice x5 x7 x9)) ∧ (w'.cell? ⟨wy.heap.size, 0, none⟩ = some (.int .i64 y0) ∧ w'.cell? ⟨wy.heap.size, 1, none⟩ = some (.int .i64 y1) ∧ w'.cell? ⟨wy.heap.size, 2, none⟩ = some (.string (strB y3)) ∧ w'.cell? ⟨wy.heap.size, 3, none⟩ = some (.int .i64 y2) ∧ w'.cell? ⟨wy.heap.size, 4, none⟩ = some (.slice y4 y6 y8) ∧ w'.cell? ⟨wy.heap.size, 5, none⟩ = some (.slice y5 y7 y9)) ∧ w'.cell? ⟨tb, 1, none⟩ = some (.int .i64 (tp : Int)))
    (first
      | (with_reducible apply HS0.out)
      | (with_reducible apply HS1.out)
      | (with_reducible apply HS2.out)
      | (with_reducible apply HS3.out))
    (first
      | (go_at_call 57; (with_reducible refine (HY3.out _ _ (Cay.drew H1.out)).mono ?_); rintro e w4 ⟨v1, xz, rfl, hv1, hx1, H4, ho1⟩; obtain ⟨z0, z1, z2, z3, z4, z5, z6, z7, z8, z9, zhz, _⟩ := hv1.exs; subst zhz; have HTz := Lib.hid hx1; have HV4 := Lib.hid (stay ho1 hR1 (IsV.drew HVx.out)); have HV5 := Lib.hid (stay ho1 hR1 (IsV.drew HVy.out)); have HB4 := Lib.hid (ho1.box (Box.drew HBx.out) hBxn); have HB5 := Lib.hid (ho1.box (Box.drew HBy.out) hByn); have HB6 := Lib.hid (ho1.box (Box.drew HX.out) hXn); obtain ⟨_, _, _, _, _, _⟩ := six_cells HB4.out; obtain ⟨_, _, _, _, _, _⟩ := six_cells HB5.out; obtain ⟨_, _, _, _⟩ := four_cells HB6.out; have hw24 : wx.heap.size < w4.heap.size := HB4.out.lt; have hw34 : wy.heap.size < w4.heap.size := HB5.out.lt; have hw44 : tb < w4.heap.size := HB6.out.lt; have HS1 := Lib.hid (And.intro (six_cells (HB4.out)) (And.intro (six_cells (HB5.out)) (four_cells (HB6.out)).2.1)); have HS2 := Lib.hid (And.intro (six_cells (HB4.out.alloc (.cells #[.int .i64 x0, .int .i64 x1, .string (strB x3), .int .i64 x2, .slice x4 x6 x8, .slice x5 x7 x9, .int .i64 y0, .int .i64 y1, .string (strB y3), .int .i64 y2, .slice y4 y6 y8, .slice y5 y7 y9, .int .i64 z0, .int .i64 z1, .string (strB z3), .int .i64 z2, .slice z4 z6 z8, .slice z5 z7 z9] 43))) (And.intro (six_cells (HB5.out.alloc (.cells #[.int .i64 x0, .int .i64 x1, .string (strB x3), .int .i64 x2, .slice x4 x6 x8, .slice x5 x7 x9, .int .i64 y0, .int .i64 y1, .string (strB y3), .int .i64 y2, .slice y4 y6 y8, .slice y5 y7 y9, .int .i64 z0, .int .i64 z1, .string (strB z3), .int .i64 z2, .slice z4 z6 z8, .slice z5 z7 z9] 43))) (four_cells (HB6.out.alloc (.cells #[.int .i64 x0, .int .i64 x1, .string (strB x3), .int .i64 x2, .slice x4 x6 x8, .slice x5 x7 x9, .int .i64 y0, .int .i64 y1, .string (strB y3), .int .i64 y2, .slice y4 y6 y8, .slice y5 y7 y9, .int .i64 z0, .int .i64 z1, .string (strB z3), .int .i64 z2, .slice z4 z6 z8, .slice z5 z7 z9] 43))).2.1)); have HS3 := Lib.hid (And.intro (six_cells ((Box.set6o HB4.out hnrX (.int .i64 9) (.int .i64 (tp : Int)) (.string ⟨#[]⟩) (.int .i64 0) (.slice (some ⟨w4.heap.size, 0, none⟩) 3 3) (.slice none 0 0)).alloc (.cells #[.int .i64 x0, .int .i64 x1, .string (strB x3), .int .i64 x2, .slice x4 x6 x8, .slice x5 x7 x9, .int .i64 y0, .int .i64 y1, .string (strB y3), .int .i64 y2, .slice y4 y6 y8, .slice y5 y7 y9, .int .i64 z0, .int .i64 z1, .string (strB z3), .int .i64 z2, .slice z4 z6 z8, .slice z5 z7 z9] 43))) (And.intro (six_cells ((Box.set6o HB5.out hnrY (.int .i64 9) (.int .i64 (tp : Int)) (.string ⟨#[]⟩) (.int .i64 0) (.slice (some ⟨w4.heap.size, 0, none⟩) 3 3) (.slice none 0 0)).alloc (.cells #[.int .i64 x0, .int .i64 x1, .string (strB x3), .int .i64 x2, .slice x4 x6 x8, .slice x5 x7 x9, .int .i64 y0, .int .i64 y1, .string (strB y3), .int .i64 y2, .slice y4 y6 y8, .slice y5 y7 y9, .int .i64 z0, .int .i64 z1, .string (strB z3), .int .i64 z2, .slice z4 z6 z8, .slice z5 z7 z9] 43))) (four_cells ((Box.set6o HB6.out hXW (.int .i64 9) (.int .i64 (tp : Int)) (.string ⟨#[]⟩) (.int .i64 0) (.slice (some ⟨w4.heap.size, 0, none⟩) 3 3) (.slice none 0 0)).alloc (.cells #[.int .i64 x0, .int .i64 x1, .string (strB x3), .int .i64 x2, .slice x4 x6 x8, .slice x5 x7 x9, .int .i64 y0, .int .i64 y1, .string (strB y3), .int .i64 y2, .slice y4 y6 y8, .slice y5 y7 y9, .int .i64 z0, .int .i64 z1, .string (strB z3), .int .i64 z2, .slice z4 z6 z8, .slice z5 z7 z9] 43))).2.1)); have hb4 := H4.res hR0; obtain ⟨_, _, _, _, _, _⟩ := six_cells hb4; obtain ⟨_, _, _, _, _, _⟩ := six_frozen hb4; have hw04 : W.heap.size < w4.heap.size := hb4.lt; clear hb4; have HW := Lib.hid hv1; have H4 := Lib.hid H4; clear ho1 hv1 hx1)
      | fail)
  all_goals (rename_i hh; clear hh HS0 HS1 HS2 HS3)
  all_goals (refine (by assumption : ∀ (a : Act) (w : World), Code.wp Try.prog Code.ret (_ : Exit → Act → World → Prop) a w → (_ : Act → World → Prop) a w) _ _ (wp_ret ?_))
  all_goals (show bodyPost Try.prog Try.f57 (TellsY c W0 W exC R) Exit.ret _ _)
  all_goals (refine bodyPost_ret (v := .agg #[.int .i64 9, .int .i64 (tp : Int), .string ⟨#[]⟩, .int .i64 0, .slice (some ⟨w4.heap.size, 0, none⟩) 3 3, .slice none 0 0]) (by simp only [results, Try.results57]; go_simp <;> rfl) rfl ?_)
  all_goals (refine tellsY H0.out (H4.out.alloc (.cells #[.int .i64 x0, .int .i64 x1, .string (strB x3), .int .i64 x2, .slice x4 x6 x8, .slice x5 x7 x9, .int .i64 y0, .int .i64 y1, .string (strB y3), .int .i64 y2, .slice y4 y6 y8, .slice y5 y7 y9, .int .i64 z0, .int .i64 z1, .string (strB z3), .int .i64 z2, .slice z4 z6 z8, .slice z5 z7 z9] 43)) (Nb.both (by repeat (first | with_reducible exact Nb.refl _ _ | with_reducible refine Nb.set ?_ _ _)) (by simp) _) (by rw [HR.out]) (.mk 9 tp [] 0 [xx, xy, xz] []) (fun h => by rw [HR.out] at h ⊢; rw [HTx.out (HQ2.out (HQ1.out h)), HTy.out (HQ1.out h), HTz.out h]) ?_)
  all_goals (refine IsV.of_ex (s := []) (kids := [xx, xy, xz]) (alts := []) ?_ (.e _ _ _); have hk := InC.three (k := 6) (t := 43) (us := [.int .i64 x0, .int .i64 x1, .string (strB x3), .int .i64 x2, .slice x4 x6 x8, .slice x5 x7 x9]) (vs := [.int .i64 y0, .int .i64 y1, .string (strB y3), .int .i64 y2, .slice y4 y6 y8, .slice y5 y7 y9]) (zs := [.int .i64 z0, .int .i64 z1, .string (strB z3), .int .i64 z2, .slice z4 z6 z8, .slice z5 z7 z9]) HV4.out HV5.out HW.out (by have := H4.out.size; exact this) (exC_len _) (exC_len _) (exC_len _) rfl; simpa [exsC] using hk)

end Go.Proofs.Ytgkeblpjmfdhkaa
