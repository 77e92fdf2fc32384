/- The document's parser: expr, let. -/
import Derived.Test.YtgkeblpjmfdhkaaYxbM
namespace Go.Proofs.Ytgkeblpjmfdhkaa
open Go.RowKit Go.Maps
set_option linter.unusedVariables false
set_option linter.unusedSimpArgs false

set_option maxRecDepth 100000 in
set_option maxHeartbeats 8000000 in
theorem c_expr_let {c : Px} {n : Nat} {X : PS → Ex × PS} (HONE : ∀ (W0 W : World) (τ : PS), Cay c W0 W τ → τ.ts.length < n → Calls Try.prog 57 #[.pointer (some ⟨c.R, 0, none⟩)] W (TellsY c W0 W exC (X τ))) (hdec : Dec X) (HM : Hid (∀ τ, (X τ).2.st = false → τ.st = false))
    {W0 W : World} {σ : PS} (h : Cay c W0 W σ) (hlen : σ.ts.length ≤ n) (hsee : σ.sees (sW tLet) = true) {R : Ex × PS} (hR : letF c.En X σ = R) :
    Calls Try.prog 57 #[.pointer (some ⟨c.R, 0, none⟩)] W (TellsY c W0 W exC R) := by
  have hR0 := h.rd.lt
  have hlenc := h.rd.len
  have hcap := h.rd.cap
  have hshort := h.rd.short
  have hR1 : c.R < (W.alloc (.cells #[.int .i64 0, .int .i64 0, .string ⟨#[]⟩, .int .i64 0, .slice none 0 0, .slice none 0 0] 43)).heap.size := by simp; omega
  have hWs : (W.alloc (.cells #[.int .i64 0, .int .i64 0, .string ⟨#[]⟩, .int .i64 0, .slice none 0 0, .slice none 0 0] 43)).heap.size = W.heap.size + 1 := by simp
  obtain ⟨t, r, hts⟩ := ts_cons (sees_pos hsee (by decide))
  have hnext : σ.next = sW tLet := of_decide_eq_true hsee
  obtain ⟨A, hA⟩ : ∃ A, σ.take c.En (sW tLet) = A := ⟨_, rfl⟩
  have hA2 : A = (t, σ.tail) := by rw [← hA, tail_take hsee]; unfold PS.head; rw [hts]; rfl
  subst hA2
  obtain ⟨B, hB⟩ : ∃ B, σ.tail.take c.En sName = B := ⟨_, rfl⟩
  obtain ⟨M, hM⟩ : ∃ M, B.2.toks = M := ⟨_, rfl⟩
  obtain ⟨D, hD⟩ : ∃ D, M.2.take c.En (sS tEq) = D := ⟨_, rfl⟩
  obtain ⟨E1, hE1⟩ : ∃ E1, X D.2 = E1 := ⟨_, rfl⟩
  obtain ⟨F, hF⟩ : ∃ F, E1.2.take c.En (sW tIn) = F := ⟨_, rfl⟩
  obtain ⟨E2, hE2⟩ : ∃ E2, X F.2 = E2 := ⟨_, rfl⟩
  have hNm : B.2.names = (M.1.map Tk.s, M.2) := by rw [toks_names, hM]
  have l1 : σ.tail.ts.length < σ.ts.length := by rw [tail_len, hts]; simp
  have l2 : B.2.ts.length ≤ σ.tail.ts.length := by rw [← hB]; exact take_len _ _ _
  have l3 : M.1.length + M.2.ts.length = B.2.ts.length := by rw [← hM]; exact toks_len _
  have l4 : D.2.ts.length ≤ M.2.ts.length := by rw [← hD]; exact take_len _ _ _
  have l5 : E1.2.ts.length ≤ D.2.ts.length := by rw [← hE1]; exact hdec _
  have l6 : F.2.ts.length ≤ E1.2.ts.length := by rw [← hF]; exact take_len _ _ _
  have HR : Hid (R = (.mk 7 t.p B.1.s 0 [lams (B.1.p : Int) (M.1.map Tk.s) E1.1, E2.1] [], E2.2)) := by show _ = _; rw [← hR]; unfold letF bindF; rw [hA]; dsimp only; rw [hB, hNm]; dsimp only; rw [hD, hE1, hF, hE2]
  have HY1 : Hid (∀ (W0 W : World), Cay c W0 W D.2 → Calls Try.prog 57 #[.pointer (some ⟨c.R, 0, none⟩)] W (TellsY c W0 W exC E1)) := fun W0 W hc => hE1 ▸ HONE W0 W D.2 hc (by omega)
  have HY2 : Hid (∀ (W0 W : World), Cay c W0 W F.2 → Calls Try.prog 57 #[.pointer (some ⟨c.R, 0, none⟩)] W (TellsY c W0 W exC E2)) := fun W0 W hc => hE2 ▸ HONE W0 W F.2 hc (by omega)
  have HQ1 : Hid (E2.2.st = false → E1.2.st = false) := fun e => PS.take_st (by rw [hF]; exact HM.out _ (by rw [hE2]; exact e))
  have HSK : Hid (σ.skip (sS tBack) = (false, σ)) := by show _ = _; unfold PS.skip; rw [if_neg (by unfold PS.sees; rw [hnext]; decide)]
  have HS1 : Hid (σ.sees (sW tLet) = true) := hsee
  have HML : Hid (M.1.length ≤ 1000000) := by show _ ≤ _; omega
  have HB := Lib.hid hB
  have HMM := Lib.hid hM
  have HD := Lib.hid hD
  have HF := Lib.hid hF
  obtain ⟨tk, tp, tx, tn⟩ := t
  obtain ⟨TX, hTX⟩ : ∃ TX, strB tx = TX := ⟨_, rfl⟩
  have HTX := Lib.hid hTX
  have H0 := Lib.hid h
  have HTS := Lib.hid hts
  have HDC := Lib.hid hdec
  have H1 := Lib.hid (h.begin (.cells #[.int .i64 0, .int .i64 0, .string ⟨#[]⟩, .int .i64 0, .slice none 0 0, .slice none 0 0] 43))
  obtain ⟨i, b, off, h0', hi, hd, ha, hbR, hb, _, _, _, _, _, _⟩ := H1.out.rd.head HTS.out
  obtain ⟨_, _, _, _, _⟩ := five_cells hb
  have hge : decide ((c.ts.length : Int) ≤ (i : Int)) = false := decide_eq_false (by omega)
  have hge2 : decide (c.ts.length ≤ i) = false := decide_eq_false (by omega)
  clear h hR hdec hts hTX hb hd ha h0' HONE hA hB hM hD hE1 hF hE2 hNm hnext l1 l2 l3 l4 l5 l6 hsee hlen HM
  go_enter Try.func57, Try.ntmps57
  go_upto_region 1 with (fail)
  go_quiet (fail)
  go_upto_region 4 with (fail)
  replace H1 := Lib.hid (H1.out.drewN nq)
  obtain ⟨w1, hw1⟩ : ∃ w1, World.drewN (W.alloc (.cells #[.int .i64 0, .int .i64 0, .string ⟨#[]⟩, .int .i64 0, .slice none 0 0, .slice none 0 0] 43)) nq = w1 := ⟨_, rfl⟩
  have hsz1 : W.heap.size + 1 = w1.heap.size := by rw [← hw1]; exact hWs.symm
  rw [hw1] at H1 ⊢
  clear hw1 hge hge2 hbR hi
  obtain ⟨i, b, off, h0', hi, hd, ha, hbR, hb, q0, q1, q2, q3, _, _⟩ := H1.out.rd.head HTS.out
  obtain ⟨_, _, _, _, _⟩ := five_cells hb
  have T9 : ∀ W, Sem.run Try.prog (Instr.indexAt 81 (.slice (some ⟨b, off, none⟩) c.ts.length c.cp) (.int .i64 (i : Int))) W = .ok (.pointer (some ⟨b, off + i * 4, none⟩)) W := fun W => by go_simp
  have hR9 := H1.out.rd.lt
  have hb9 : b < w1.heap.size := by omega
  dsimp only at q0 q1 q2 q3
  have hTX := HTX.out
  rw [hTX] at q2
  clear hb hd ha h0' hTX
  go_region
  go_upto_region 5 with (fail)
  have HX : Hid (Box (w1.alloc (.cells #[.int .i64 (tk : Int), .int .i64 (tp : Int), .string TX, .int .i64 (tn : Int)] 103)).drew w1.heap.size 103 [.int .i64 (tk : Int), .int .i64 (tp : Int), .string TX, .int .i64 (tn : Int)]) := Box.new w1 103 [.int .i64 (tk : Int), .int .i64 (tp : Int), .string TX, .int .i64 (tn : Int)]
  replace H1 := Lib.hid (H1.out.alloc (.cells #[.int .i64 (tk : Int), .int .i64 (tp : Int), .string TX, .int .i64 (tn : Int)] 103)).drew
  obtain ⟨w5, hw5⟩ : ∃ w5, (w1.alloc (.cells #[.int .i64 (tk : Int), .int .i64 (tp : Int), .string TX, .int .i64 (tn : Int)] 103)).drew = w5 := ⟨_, rfl⟩
  obtain ⟨tb, htb⟩ : ∃ tb, w1.heap.size = tb := ⟨_, rfl⟩
  rw [hw5, htb] at HX
  rw [hw5] at H1 ⊢
  rw [htb] at hR9 hsz1
  try rw [htb]
  have hXn : ¬ (tb = c.R) := by omega
  have hXW : tb ≠ W.heap.size := by omega
  clear q0 q1 q2 q3 T9 hbR hi hb9 hw5 htb
  go_upto_region 11 with (first
    | (go_at_call 55; refine (c_try H1.out tBack (askS (by decide) (by decide)) rfl HSK.out).mono ?_; clear H1 HSK; rintro e w6 ⟨rfl, H1, ho1⟩; (try (replace HX := Lib.hid (ho1.box HX.out hXn))); clear ho1; replace H1 := Lib.hid H1)
    | (go_at_call 50; refine (c_peek H1.out (sW tLet) (askW (by decide) (by decide)) rfl rfl HS1.out).mono ?_; clear H1 HS1; rintro e w7 ⟨rfl, H1, ho1⟩; (try (replace HX := Lib.hid (ho1.box HX.out hXn))); clear ho1; replace H1 := Lib.hid H1))
  obtain ⟨i, b, off, h0', hi, hd, ha, hbR, hb, _, _, _, _, _, _⟩ := H1.out.rd.head HTS.out
  obtain ⟨_, _, _, _, _⟩ := five_cells hb
  obtain ⟨_, _, _, _, _⟩ := five_frozen hb
  obtain ⟨hs1, hs2⟩ := H1.out.step HTS.out h0' hd hi ha hb (Below.refl _ _)
  replace HX := Lib.hid (hs2.box HX.out hXn)
  replace H1 := Lib.hid hs1
  clear hb hd ha h0' hs1 hs2
  go_upto_region 15 with (first
    | (go_at_call 51; refine (c_eat H1.out sName askName (by decide) rfl rfl HB.out).mono ?_; clear H1 HB; rintro e wn ⟨rfl, H1, ho1⟩; (try (replace HX := Lib.hid (ho1.box HX.out hXn))); (try (replace HX := Lib.hid (HX.out.alloc (.cells #[.int .i64 (B.1.k : Int), .int .i64 (B.1.p : Int), .string (strB B.1.s), .int .i64 (B.1.n : Int)] 103)))); have hlHN := H1.size; have hNn : ¬ (wn.heap.size = c.R) := (by have := H1.rd.lt; omega); have HN := Lib.hid (Box.new wn 103 [.int .i64 (B.1.k : Int), .int .i64 (B.1.p : Int), .string (strB B.1.s), .int .i64 (B.1.n : Int)]); clear ho1; replace H1 := Lib.hid (H1.alloc (.cells #[.int .i64 (B.1.k : Int), .int .i64 (B.1.p : Int), .string (strB B.1.s), .int .i64 (B.1.n : Int)] 103)))
    | (go_at_call 52; refine (c_names H1.out HMM.out).mono ?_; clear H1 HMM; rintro e w8 ⟨a1, cp1, rfl, htk, H1, ho1⟩; (try (replace HX := Lib.hid (ho1.box HX.out hXn))); (try (replace HN := Lib.hid (ho1.box HN.out hNn))); (try (replace HTK := Lib.hid (HTK.out.stay ho1 hR1))); have HTK := Lib.hid htk; clear ho1 htk; replace H1 := Lib.hid H1)
    | (go_at_call 53; refine (c_sign H1.out tEq (askS (by decide) (by decide)) rfl HD.out).mono ?_; clear H1 HD; rintro e w9 ⟨rfl, H1, ho1⟩; (try (replace HX := Lib.hid (ho1.box HX.out hXn))); (try (replace HN := Lib.hid (ho1.box HN.out hNn))); (try (replace HTK := Lib.hid (HTK.out.stay ho1 hR1))); have hnq := (four_cells HN.out).2.1; have hnl := HN.out.lt; clear ho1; replace H1 := Lib.hid H1))
  have HS0 := Lib.hid (four_cells (Box.drew HN.out)).2.1
  have HSa := Lib.hid (four_cells (Box.drew (HN.out.alloc (.cells #[.int .i64 0, .int .i64 0, .string ⟨#[]⟩, .int .i64 0, .slice none 0 0, .slice none 0 0] 43)))).2.1
  go_region_held3 (fun w' => w'.cell? ⟨wn.heap.size, 1, none⟩ = some (.int .i64 (B.1.p : Int)))
    (first
      | (with_reducible apply HS0.out)
      | (with_reducible apply HS1.out)
      | (with_reducible apply HS2.out)
      | (with_reducible apply HS3.out)
      | (with_reducible apply HS4.out)
      | (with_reducible apply HSa.out)
      | (with_reducible apply HSc.out)
      | (with_reducible apply HSd.out)
      | (with_reducible apply HSe.out))
    (first
      | (go_at_call 57; (first | ((with_reducible refine (HY1.out (World.drew w9) _ (Cay.start (Cay.drew H1.out).rd)).mono ?_); rintro e w4 ⟨v1, xb, rfl, hv1, hx1, H4, ho1⟩; obtain ⟨y0, y1, y2, y3, y4, y5, y6, y7, y8, y9, yhz, _⟩ := hv1.exs; subst yhz; have hoq := Out.drew2 ho1; have hvq : IsV (New (W.alloc (.cells #[.int .i64 0, .int .i64 0, .string ⟨#[]⟩, .int .i64 0, .slice none 0 0, .slice none 0 0] 43))) w4 _ _ := newer (W := World.drew w9) H1.out.size hv1; have HTK4 : Hid (TokS (W.alloc (.cells #[.int .i64 0, .int .i64 0, .string ⟨#[]⟩, .int .i64 0, .slice none 0 0, .slice none 0 0] 43)) w4 a1 cp1 M.1) := TokS.stay (w := w9) HTK.out hoq hR1; have HLK := Lib.hid (y_lams (W.alloc (.cells #[.int .i64 0, .int .i64 0, .string ⟨#[]⟩, .int .i64 0, .slice none 0 0, .slice none 0 0] 43)) w4 (B.1.p : Int) M.1 xb a1 cp1 _ (Nat.le_trans H1.out.size hoq.size) HML.out HTK4.out hvq); have HLL := Lib.hid (y_lamsS (fun b => New (W.alloc (.cells #[.int .i64 0, .int .i64 0, .string ⟨#[]⟩, .int .i64 0, .slice none 0 0, .slice none 0 0] 43)) b ∧ b ≠ w4.heap.size) (W.alloc (.cells #[.int .i64 0, .int .i64 0, .string ⟨#[]⟩, .int .i64 0, .slice none 0 0, .slice none 0 0] 43)) (w4.alloc (.cells #[.int .i64 0, .int .i64 0, .string ⟨#[]⟩, .int .i64 0, .slice none 0 0, .slice none 0 0] 43)) (B.1.p : Int) M.1 xb a1 cp1 _ (fun b hb => by have := Nat.le_trans H1.out.size hoq.size; simp at hb this; unfold New; simp; omega) HML.out (HTK4.out.under ((Below.refl _ w4).alloc (Nat.le_refl _) _)) ((hvq.mono (fun b hb h => ⟨h, by omega⟩)).under ((Below.refl _ w4).alloc (Nat.le_refl _) _)))) | ((with_reducible refine (HY1.out (World.drew (w9.alloc (.cells #[.int .i64 0, .int .i64 0, .string ⟨#[]⟩, .int .i64 0, .slice none 0 0, .slice none 0 0] 43))) _ (Cay.start (Cay.drew (H1.out.alloc _)).rd)).mono ?_); rintro e w4 ⟨v1, xb, rfl, hv1, hx1, H4, ho1⟩; obtain ⟨y0, y1, y2, y3, y4, y5, y6, y7, y8, y9, yhz, _⟩ := hv1.exs; subst yhz; have hoq := out_alloc ho1; have HP4 := Lib.hid (ho1.box (Box.drew (Box.new w9 43 [.int .i64 0, .int .i64 0, .string ⟨#[]⟩, .int .i64 0, .slice none 0 0, .slice none 0 0])) (show ¬ (_ = c.R) by have := H1.out.rd.lt; show ¬ (w9.heap.size = c.R); omega)); have HTK4 : Hid (TokS (W.alloc (.cells #[.int .i64 0, .int .i64 0, .string ⟨#[]⟩, .int .i64 0, .slice none 0 0, .slice none 0 0] 43)) w4 a1 cp1 M.1) := TokS.stay (w := w9) HTK.out hoq hR1; have HLK := Lib.hid (y_lamsS (fun b => New (W.alloc (.cells #[.int .i64 0, .int .i64 0, .string ⟨#[]⟩, .int .i64 0, .slice none 0 0, .slice none 0 0] 43)) b ∧ b ≠ w9.heap.size) (W.alloc (.cells #[.int .i64 0, .int .i64 0, .string ⟨#[]⟩, .int .i64 0, .slice none 0 0, .slice none 0 0] 43)) w4 (B.1.p : Int) M.1 xb a1 cp1 _ (fun b hb => by have h1 := H1.out.size; have h2 := HP4.out.lt; have h3 := hoq.size; simp at h1 h2 h3; unfold New; simp; omega) HML.out HTK4.out (hv1.mono (fun b hb h => by have h1 := H1.out.size; unfold New at *; simp at *; omega))))); have HTb := Lib.hid hx1; have HX4 := Lib.hid (hoq.box HX.out hXn); have HN4 := Lib.hid (hoq.box HN.out hNn); have HS1 := Lib.hid (four_cells HN4.out).2.1; have HSc := Lib.hid (four_cells (HN4.out.alloc (.cells #[.int .i64 0, .int .i64 0, .string ⟨#[]⟩, .int .i64 0, .slice none 0 0, .slice none 0 0] 43))).2.1; have hn4 := HN4.out.lt; replace H4 := Lib.hid (H1.out.next H4.rd hoq); have hw94 := hoq.size; clear ho1 hoq hv1 hx1)
      | (go_at_call 56; (first | (with_reducible refine (HLK.out).mono ?_; rintro e w6 ⟨v6, rfl, hv6, hb6⟩) | (with_reducible refine (HLL.out).mono ?_; rintro e w6 ⟨v6, rfl, hv6, hb6⟩; have HP6 := Lib.hid ((Box.new w4 43 [.int .i64 0, .int .i64 0, .string ⟨#[]⟩, .int .i64 0, .slice none 0 0, .slice none 0 0]).below hb6); replace hb6 := ((Below.refl _ w4).alloc (Nat.le_refl _) (.cells #[.int .i64 0, .int .i64 0, .string ⟨#[]⟩, .int .i64 0, .slice none 0 0, .slice none 0 0] 43)).trans (hb6.mono (by simp)))); obtain ⟨u0, u1, u2, u3, u4, u5, u6, u7, u8, u9, uhz, _⟩ := hv6.exs; subst uhz; have HVu := Lib.hid hv6; (try (have HP6 := Lib.hid (HP4.out.below hb6))); (try (obtain ⟨_, _, _, _, _, _⟩ := six_cells HP6.out; obtain ⟨_, _, _, _, _, _⟩ := six_frozen HP6.out; have hp6 := HP6.out.lt)); have HX6 := Lib.hid (HX4.out.below hb6); have HN6 := Lib.hid (HN4.out.below hb6); have HS2 := Lib.hid (four_cells HN6.out).2.1; have HS3 := Lib.hid (four_cells (HN6.out.alloc (.cells #[.int .i64 0, .int .i64 0, .string ⟨#[]⟩, .int .i64 0, .slice none 0 0, .slice none 0 0] 43))).2.1; have HS4 := Lib.hid (four_cells (HN6.out.alloc (.cells #[.int .i64 u0, .int .i64 u1, .string (strB u3), .int .i64 u2, .slice u4 u6 u8, .slice u5 u7 u9] 43))).2.1; have HSd := Lib.hid (four_cells (Box.set6o HN6.out (B := w4.heap.size) (by omega) (.int .i64 u0) (.int .i64 u1) (.string (strB u3)) (.int .i64 u2) (.slice u4 u6 u8) (.slice u5 u7 u9))).2.1; have HSe := Lib.hid (four_cells (Box.set6o HN6.out (B := w9.heap.size) (by omega) (.int .i64 u0) (.int .i64 u1) (.string (strB u3)) (.int .i64 u2) (.slice u4 u6 u8) (.slice u5 u7 u9))).2.1; have hn6 := HN6.out.lt; have H6 := Lib.hid (H4.out.under hb6); clear hb6 hv6))
  all_goals (rename_i hh; clear hh HS0 HS1 HS2 HS3 HS4 HSa HSc HSd HSe)
  all_goals (first
    | (have q1 := HX6.out.alloc (.cells #[.int .i64 u0, .int .i64 u1, .string (strB u3), .int .i64 u2, .slice u4 u6 u8, .slice u5 u7 u9] 43); have q2 := HN6.out.alloc (.cells #[.int .i64 u0, .int .i64 u1, .string (strB u3), .int .i64 u2, .slice u4 u6 u8, .slice u5 u7 u9] 43); have q3 := H6.out.alloc (.cells #[.int .i64 u0, .int .i64 u1, .string (strB u3), .int .i64 u2, .slice u4 u6 u8, .slice u5 u7 u9] 43); have q4 := Box.new w6 43 [.int .i64 u0, .int .i64 u1, .string (strB u3), .int .i64 u2, .slice u4 u6 u8, .slice u5 u7 u9]; have q5 := HVu.out.under ((Below.refl _ w6).alloc (Nat.le_refl _) (.cells #[.int .i64 u0, .int .i64 u1, .string (strB u3), .int .i64 u2, .slice u4 u6 u8, .slice u5 u7 u9] 43)); obtain ⟨wu, hwu⟩ : ∃ wu, w6.alloc (.cells #[.int .i64 u0, .int .i64 u1, .string (strB u3), .int .i64 u2, .slice u4 u6 u8, .slice u5 u7 u9] 43) = wu := ⟨_, rfl⟩; rw [hwu] at q1 q2 q3 q4 q5 ⊢; obtain ⟨pb, hpb⟩ : ∃ pb, w6.heap.size = pb := ⟨_, rfl⟩; have hBun : ¬ (pb = c.R) := (by have := H6.out.rd.lt; omega); have hluu : (W.alloc (.cells #[.int .i64 0, .int .i64 0, .string ⟨#[]⟩, .int .i64 0, .slice none 0 0, .slice none 0 0] 43)).heap.size ≤ pb := (by have := H6.out.size; omega); rw [hpb] at q4 ⊢)
    | (have q1 := Box.set6o HX6.out (B := w4.heap.size) (by omega) (.int .i64 u0) (.int .i64 u1) (.string (strB u3)) (.int .i64 u2) (.slice u4 u6 u8) (.slice u5 u7 u9); have q2 := Box.set6o HN6.out (B := w4.heap.size) (by omega) (.int .i64 u0) (.int .i64 u1) (.string (strB u3)) (.int .i64 u2) (.slice u4 u6 u8) (.slice u5 u7 u9); have q4 := box_six (v0 := .int .i64 u0) (v1 := .int .i64 u1) (v2 := .string (strB u3)) (v3 := .int .i64 u2) (v4 := .slice u4 u6 u8) (v5 := .slice u5 u7 u9) HP6.out rfl; have q3 := cay_six H6.out (B := w4.heap.size) H4.out.size (.int .i64 u0) (.int .i64 u1) (.string (strB u3)) (.int .i64 u2) (.slice u4 u6 u8) (.slice u5 u7 u9); have q5 := tree_six (B := w4.heap.size) HVu.out (.int .i64 u0) (.int .i64 u1) (.string (strB u3)) (.int .i64 u2) (.slice u4 u6 u8) (.slice u5 u7 u9); obtain ⟨wu, hwu⟩ : ∃ wu, ((((((w6.setCell ⟨w4.heap.size, 0, none⟩ (.int .i64 u0)).setCell ⟨w4.heap.size, 1, none⟩ (.int .i64 u1)).setCell ⟨w4.heap.size, 2, none⟩ (.string (strB u3))).setCell ⟨w4.heap.size, 3, none⟩ (.int .i64 u2)).setCell ⟨w4.heap.size, 4, none⟩ (.slice u4 u6 u8)).setCell ⟨w4.heap.size, 5, none⟩ (.slice u5 u7 u9)) = wu := ⟨_, rfl⟩; rw [hwu] at q1 q2 q3 q4 q5 ⊢; obtain ⟨pb, hpb⟩ : ∃ pb, w4.heap.size = pb := ⟨_, rfl⟩; have hBun : ¬ (pb = c.R) := (by have := H4.out.rd.lt; have := H0.out.rd.lt; omega); have hluu : (W.alloc (.cells #[.int .i64 0, .int .i64 0, .string ⟨#[]⟩, .int .i64 0, .slice none 0 0, .slice none 0 0] 43)).heap.size ≤ pb := (by rw [← hpb]; exact H4.out.size); rw [hpb] at q4 ⊢)
    | (have q1 := Box.set6o HX6.out (B := w9.heap.size) (by omega) (.int .i64 u0) (.int .i64 u1) (.string (strB u3)) (.int .i64 u2) (.slice u4 u6 u8) (.slice u5 u7 u9); have q2 := Box.set6o HN6.out (B := w9.heap.size) (by omega) (.int .i64 u0) (.int .i64 u1) (.string (strB u3)) (.int .i64 u2) (.slice u4 u6 u8) (.slice u5 u7 u9); have q4 := box_six (v0 := .int .i64 u0) (v1 := .int .i64 u1) (v2 := .string (strB u3)) (v3 := .int .i64 u2) (v4 := .slice u4 u6 u8) (v5 := .slice u5 u7 u9) HP6.out rfl; have q3 := cay_six H6.out (B := w9.heap.size) H1.out.size (.int .i64 u0) (.int .i64 u1) (.string (strB u3)) (.int .i64 u2) (.slice u4 u6 u8) (.slice u5 u7 u9); have q5 := tree_six (B := w9.heap.size) HVu.out (.int .i64 u0) (.int .i64 u1) (.string (strB u3)) (.int .i64 u2) (.slice u4 u6 u8) (.slice u5 u7 u9); obtain ⟨wu, hwu⟩ : ∃ wu, ((((((w6.setCell ⟨w9.heap.size, 0, none⟩ (.int .i64 u0)).setCell ⟨w9.heap.size, 1, none⟩ (.int .i64 u1)).setCell ⟨w9.heap.size, 2, none⟩ (.string (strB u3))).setCell ⟨w9.heap.size, 3, none⟩ (.int .i64 u2)).setCell ⟨w9.heap.size, 4, none⟩ (.slice u4 u6 u8)).setCell ⟨w9.heap.size, 5, none⟩ (.slice u5 u7 u9)) = wu := ⟨_, rfl⟩; rw [hwu] at q1 q2 q3 q4 q5 ⊢; obtain ⟨pb, hpb⟩ : ∃ pb, w9.heap.size = pb := ⟨_, rfl⟩; have hBun : ¬ (pb = c.R) := (by have := H4.out.rd.lt; have := H0.out.rd.lt; omega); have hluu : (W.alloc (.cells #[.int .i64 0, .int .i64 0, .string ⟨#[]⟩, .int .i64 0, .slice none 0 0, .slice none 0 0] 43)).heap.size ≤ pb := (by rw [← hpb]; exact H1.out.size); rw [hpb] at q4 ⊢))
  all_goals (replace HX := Lib.hid q1; replace HN := Lib.hid q2; replace H1 := Lib.hid q3; have HBu := Lib.hid q4; replace HVu := Lib.hid q5)
  all_goals (clear q1 q2 q3 q4 q5 hwu hpb HX4 HX6 HN4 HN6 H4 H6 HTK HTK4 HLK)
  all_goals (try clear HLL)
  all_goals (go_upto_region 17 with (go_at_call 51; refine (c_eat H1.out (sW tIn) (askW (by decide) (by decide)) (by decide) rfl rfl HF.out).mono ?_; clear H1 HF; rintro e w9 ⟨rfl, H1, ho1⟩; (try (replace HX := Lib.hid (ho1.box HX.out hXn))); (try (replace HN := Lib.hid (ho1.box HN.out hNn))); (try (replace HBu := Lib.hid (ho1.box HBu.out hBun))); (try (replace HVu := Lib.hid (stay ho1 hR1 HVu.out))); obtain ⟨_, _, _, _, _, _⟩ := six_cells HBu.out; obtain ⟨_, _, _, _⟩ := four_cells HX.out; obtain ⟨_, _, _, _⟩ := four_cells HN.out; have hclx := HBu.out.lt; have hcly := HX.out.lt; have hclt := HN.out.lt; clear ho1; replace H1 := Lib.hid H1))
  all_goals (have HS0 := Lib.hid (And.intro (six_cells (Box.drew HBu.out)) (And.intro (four_cells (Box.drew HX.out)).2.1 (four_cells (Box.drew HN.out)).2.2.1)))
  all_goals (have hnrU : pb ≠ W.heap.size := by omega)
  all_goals (have hnrN : wn.heap.size ≠ W.heap.size := by omega)
  all_goals (go_region_held3 (fun w' => (w'.cell? ⟨pb, 0, none⟩ = some (.int .i64 u0) ∧ w'.cell? ⟨pb, 1, none⟩ = some (.int .i64 u1) ∧ w'.cell? ⟨pb, 2, none⟩ = some (.string (strB u3)) ∧ w'.cell? ⟨pb, 3, none⟩ = some (.int .i64 u2) ∧ w'.cell? ⟨pb, 4, none⟩ = some (.slice u4 u6 u8) ∧ w'.cell? ⟨pb, 5, none⟩ = some (.slice u5 u7 u9)) ∧ w'.cell? ⟨tb, 1, none⟩ = some (.int .i64 (tp : Int)) ∧ w'.cell? ⟨wn.heap.size, 2, none⟩ = some (.string (strB B.1.s)))
    (first
      | (with_reducible apply HS0.out)
      | (with_reducible apply HS1.out)
      | (with_reducible apply HS2.out)
      | (with_reducible apply HS3.out))
    (first
      | (go_at_call 57; (with_reducible refine (HY2.out _ _ (Cay.drew H1.out)).mono ?_); rintro e w4 ⟨v1, xz, rfl, hv1, hx1, H4, ho1⟩; obtain ⟨z0, z1, z2, z3, z4, z5, z6, z7, z8, z9, zhz, _⟩ := hv1.exs; subst zhz; have HTz := Lib.hid hx1; have HV4 := Lib.hid (stay ho1 hR1 (IsV.drew HVu.out)); have HB4 := Lib.hid (ho1.box (Box.drew HBu.out) hBun); have HB5 := Lib.hid (ho1.box (Box.drew HX.out) hXn); have HB6 := Lib.hid (ho1.box (Box.drew HN.out) hNn); obtain ⟨_, _, _, _, _, _⟩ := six_cells HB4.out; obtain ⟨_, _, _, _⟩ := four_cells HB5.out; obtain ⟨_, _, _, _⟩ := four_cells HB6.out; have hw24 := HB4.out.lt; have hw34 := HB5.out.lt; have hw44 := HB6.out.lt; have HS1 := Lib.hid (And.intro (six_cells (HB4.out)) (And.intro (four_cells (HB5.out)).2.1 (four_cells (HB6.out)).2.2.1)); have HS2 := Lib.hid (And.intro (six_cells (HB4.out.alloc (.cells #[.int .i64 u0, .int .i64 u1, .string (strB u3), .int .i64 u2, .slice u4 u6 u8, .slice u5 u7 u9, .int .i64 z0, .int .i64 z1, .string (strB z3), .int .i64 z2, .slice z4 z6 z8, .slice z5 z7 z9] 43))) (And.intro (four_cells (HB5.out.alloc (.cells #[.int .i64 u0, .int .i64 u1, .string (strB u3), .int .i64 u2, .slice u4 u6 u8, .slice u5 u7 u9, .int .i64 z0, .int .i64 z1, .string (strB z3), .int .i64 z2, .slice z4 z6 z8, .slice z5 z7 z9] 43))).2.1 (four_cells (HB6.out.alloc (.cells #[.int .i64 u0, .int .i64 u1, .string (strB u3), .int .i64 u2, .slice u4 u6 u8, .slice u5 u7 u9, .int .i64 z0, .int .i64 z1, .string (strB z3), .int .i64 z2, .slice z4 z6 z8, .slice z5 z7 z9] 43))).2.2.1)); have HS3 := Lib.hid (And.intro (six_cells ((Box.set6o HB4.out hnrU (.int .i64 7) (.int .i64 (tp : Int)) (.string (strB B.1.s)) (.int .i64 0) (.slice (some ⟨w4.heap.size, 0, none⟩) 2 2) (.slice none 0 0)).alloc (.cells #[.int .i64 u0, .int .i64 u1, .string (strB u3), .int .i64 u2, .slice u4 u6 u8, .slice u5 u7 u9, .int .i64 z0, .int .i64 z1, .string (strB z3), .int .i64 z2, .slice z4 z6 z8, .slice z5 z7 z9] 43))) (And.intro (four_cells ((Box.set6o HB5.out hXW (.int .i64 7) (.int .i64 (tp : Int)) (.string (strB B.1.s)) (.int .i64 0) (.slice (some ⟨w4.heap.size, 0, none⟩) 2 2) (.slice none 0 0)).alloc (.cells #[.int .i64 u0, .int .i64 u1, .string (strB u3), .int .i64 u2, .slice u4 u6 u8, .slice u5 u7 u9, .int .i64 z0, .int .i64 z1, .string (strB z3), .int .i64 z2, .slice z4 z6 z8, .slice z5 z7 z9] 43))).2.1 (four_cells ((Box.set6o HB6.out hnrN (.int .i64 7) (.int .i64 (tp : Int)) (.string (strB B.1.s)) (.int .i64 0) (.slice (some ⟨w4.heap.size, 0, none⟩) 2 2) (.slice none 0 0)).alloc (.cells #[.int .i64 u0, .int .i64 u1, .string (strB u3), .int .i64 u2, .slice u4 u6 u8, .slice u5 u7 u9, .int .i64 z0, .int .i64 z1, .string (strB z3), .int .i64 z2, .slice z4 z6 z8, .slice z5 z7 z9] 43))).2.2.1)); have hb4 := H4.res hR0; obtain ⟨_, _, _, _, _, _⟩ := six_cells hb4; obtain ⟨_, _, _, _, _, _⟩ := six_frozen hb4; have hw04 : W.heap.size < w4.heap.size := hb4.lt; clear hb4; have HW := Lib.hid hv1; have H4 := Lib.hid H4; clear ho1 hv1 hx1)
      | fail))
  all_goals (rename_i hh; clear hh HS0 HS1 HS2 HS3)
  all_goals (refine (by assumption : ∀ (a : Act) (w : World), Code.wp Try.prog Code.ret (_ : Exit → Act → World → Prop) a w → (_ : Act → World → Prop) a w) _ _ (wp_ret ?_))
  all_goals (show bodyPost Try.prog Try.f57 (TellsY c W0 W exC R) Exit.ret _ _)
  all_goals (refine bodyPost_ret (v := .agg #[.int .i64 7, .int .i64 (tp : Int), .string (strB B.1.s), .int .i64 0, .slice (some ⟨w4.heap.size, 0, none⟩) 2 2, .slice none 0 0]) (by simp only [results, Try.results57]; go_simp <;> rfl) rfl ?_)
  all_goals (refine tellsY H0.out (H4.out.alloc (.cells #[.int .i64 u0, .int .i64 u1, .string (strB u3), .int .i64 u2, .slice u4 u6 u8, .slice u5 u7 u9, .int .i64 z0, .int .i64 z1, .string (strB z3), .int .i64 z2, .slice z4 z6 z8, .slice z5 z7 z9] 43)) (Nb.both (by repeat (first | with_reducible exact Nb.refl _ _ | with_reducible refine Nb.set ?_ _ _)) (by simp) _) (by rw [HR.out]) (.mk 7 tp B.1.s 0 [lams (B.1.p : Int) (M.1.map Tk.s) xb, xz] []) (fun h => by rw [HR.out] at h ⊢; rw [HTb.out (HQ1.out h), HTz.out h]) ?_)
  all_goals (refine IsV.of_ex (kids := [lams (B.1.p : Int) (M.1.map Tk.s) xb, xz]) (alts := []) ?_ (.e _ _ _); have hk := InC.two (k := 6) (t := 43) (us := [.int .i64 u0, .int .i64 u1, .string (strB u3), .int .i64 u2, .slice u4 u6 u8, .slice u5 u7 u9]) (vs := [.int .i64 z0, .int .i64 z1, .string (strB z3), .int .i64 z2, .slice z4 z6 z8, .slice z5 z7 z9]) HV4.out HW.out (by have := H4.out.size; exact this) (exC_len _) (exC_len _) rfl; simpa [exsC] using hk)

end Go.Proofs.Ytgkeblpjmfdhkaa
