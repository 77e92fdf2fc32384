/- The document's parser: expr, case. -/
import Derived.Test.YtgkeblpjmfdhkaaYxbM
import Derived.Test.YtgkeblpjmfdhkaaYghM
import Derived.Test.YtgkeblpjmfdhkaaZFM
namespace Go.Proofs.Ytgkeblpjmfdhkaa
open Go.RowKit Go.Maps
set_option linter.unusedVariables false
set_option linter.unusedSimpArgs false

/-- Behind the case's first expression: its own variable. -/
def CaseR (c : Px) (Wr : World) (tp : Nat) (E1 : Ex × PS) (s10 : Value) (wx : World) : Prop := ∃ (pb kb : Nat) (xk : Ex), s10 = .pointer (some ⟨pb, 0, none⟩) ∧ Cay c Wr wx E1.2 ∧ Box wx pb 43 [.int .i64 10, .int .i64 (tp : Int), .string ⟨#[]⟩, .int .i64 0, .slice (some ⟨kb, 0, none⟩) 1 1, .slice none 0 0] ∧ InC (fun b => New Wr b ∧ b ≠ pb) wx (.s 1 6 (exC xk)) (.slice (some ⟨kb, 0, none⟩) 1 1) ∧ (E1.2.st = false → xk = E1.1) ∧ ¬ (pb = c.R) ∧ Wr.heap.size ≤ pb

/-- Behind the case's first alt. -/
def CaseS (c : Px) (Wr V1 : World) (pb kb : Nat) (tp : Nat) (xk : Ex) (r0 : Al × PS) (wx : World) : Prop := ∃ (g cap : Nat) (xq : Al) (us : List Value), Cay c Wr wx r0.2 ∧ GH V1 pb 43 [.int .i64 10, .int .i64 (tp : Int), .string ⟨#[]⟩, .int .i64 0, .slice (some ⟨kb, 0, none⟩) 1 1] [] 161 9 wx (.slice (some ⟨g, 0, none⟩) 1 cap) 1 (alC xq) us ∧ InC (fun b => New Wr b ∧ b ≠ pb ∧ b < V1.heap.size) wx (.s 1 6 (exC xk)) (.slice (some ⟨kb, 0, none⟩) 1 1) ∧ (r0.2.st = false → xq = r0.1)

set_option maxRecDepth 100000 in
set_option maxHeartbeats 8000000 in
theorem c_expr_case {c : Px} {n : Nat} {X : PS → Ex × PS} (HONE : ∀ (W0 W : World) (τ : PS), Cay c W0 W τ → τ.ts.length < n → Calls Try.prog 57 #[.pointer (some ⟨c.R, 0, none⟩)] W (TellsY c W0 W exC (X τ))) (hdec : Dec X) (HM : Hid (∀ τ, (X τ).2.st = false → τ.st = false))
    {W0 W : World} {σ : PS} (h : Cay c W0 W σ) (hlen : σ.ts.length ≤ n) (hsee : σ.sees (sW tCase) = true) {R : Ex × PS} (hR : casesF c.En X σ = R) :
    Calls Try.prog 57 #[.pointer (some ⟨c.R, 0, none⟩)] W (TellsY c W0 W exC R) := by
  have hR0 := h.rd.lt
  have hlenc := h.rd.len
  have hcap := h.rd.cap
  have hshort := h.rd.short
  have hR1 : c.R < (W.alloc (.cells #[.int .i64 0, .int .i64 0, .string ⟨#[]⟩, .int .i64 0, .slice none 0 0, .slice none 0 0] 43)).heap.size := by simp; omega
  have hWs : (W.alloc (.cells #[.int .i64 0, .int .i64 0, .string ⟨#[]⟩, .int .i64 0, .slice none 0 0, .slice none 0 0] 43)).heap.size = W.heap.size + 1 := by simp
  obtain ⟨t, r, hts⟩ := ts_cons (sees_pos hsee (by decide))
  obtain ⟨i0, hi0, hz0, hz1, hz2⟩ := info_parts Try.zinfoA
  have hnext : σ.next = sW tCase := of_decide_eq_true hsee
  obtain ⟨A, hA⟩ : ∃ A, σ.take c.En (sW tCase) = A := ⟨_, rfl⟩
  have hA2 : A = (t, σ.tail) := by rw [← hA, tail_take hsee]; unfold PS.head; rw [hts]; rfl
  subst hA2
  obtain ⟨E1, hE1⟩ : ∃ E1, X σ.tail = E1 := ⟨_, rfl⟩
  obtain ⟨F1, hF1⟩ : ∃ F1, E1.2.take c.En (sW tOf) = F1 := ⟨_, rfl⟩
  obtain ⟨F2, hF2⟩ : ∃ F2, F1.2.take c.En (sS tLcur) = F2 := ⟨_, rfl⟩
  obtain ⟨Q, hQ⟩ : ∃ Q, rowsF (sS tSemi) many (altF c.En X) F2.2 = Q := ⟨_, rfl⟩
  obtain ⟨r0, hr0⟩ : ∃ r0, altF c.En X F2.2 = r0 := ⟨_, rfl⟩
  have l1 : σ.tail.ts.length < σ.ts.length := by rw [tail_len, hts]; simp
  have l2 : E1.2.ts.length ≤ σ.tail.ts.length := by rw [← hE1]; exact hdec _
  have l3 : F1.2.ts.length ≤ E1.2.ts.length := by rw [← hF1]; exact take_len _ _ _
  have l4 : F2.2.ts.length ≤ F1.2.ts.length := by rw [← hF2]; exact take_len _ _ _
  have l5 : r0.2.ts.length ≤ F2.2.ts.length := by rw [← hr0]; exact altF_len hdec _
  have HR : Hid (R = (.mk 10 t.p [] 0 [E1.1] Q.1, (Q.2.take c.En (sS tRcur)).2)) := by show _ = _; rw [← hR]; unfold casesF; rw [hA]; dsimp only; rw [hE1, hF1, hF2, hQ]
  have HY1 : Hid (∀ (W0 W : World), Cay c W0 W σ.tail → Calls Try.prog 57 #[.pointer (some ⟨c.R, 0, none⟩)] W (TellsY c W0 W exC E1)) := fun W0 W hc => hE1 ▸ HONE W0 W σ.tail hc (by omega)
  have HAL : Hid (∀ (W0 W : World) (τ : PS), Cay c W0 W τ → τ.ts.length < n → Calls Try.prog 104 #[.pointer (some ⟨c.R, 0, none⟩)] W (TellsY c W0 W alC (altF c.En X τ))) := fun W0 W τ hc hl => c_alt HONE hdec hc hl rfl
  have HAD := Lib.hid (altF_len (En := c.En) hdec)
  have hFn : F2.2.ts.length < n := by omega
  have hrn : r0.2.ts.length < n := by omega
  have hr6 : r0.2.ts.length ≤ 65535 := by omega
  have HQ0 : Hid (rowsL (sS tSemi) many (altF c.En X) r0.2.ts.length [r0.1] r0.2 = Q) := by show _ = _; rw [← hr0]; exact hQ
  have HR00 := Lib.hid hr0
  have HST : Hid (Q.2.st = false → E1.2.st = false) := fun e => PS.take_st (by rw [hF1]; exact PS.take_st (by rw [hF2]; exact altF_st HM.out _ (by rw [hr0]; exact rowsL_st (altF_st HM.out) _ _ _ (by rw [HQ0.out]; exact e))))
  have HSK : Hid (σ.skip (sS tBack) = (false, σ)) := by show _ = _; unfold PS.skip; rw [if_neg (by unfold PS.sees; rw [hnext]; decide)]
  have HS1 : Hid (σ.sees (sW tLet) = false) := by show _ = _; unfold PS.sees; rw [hnext]; decide
  have HS2 : Hid (σ.sees (sW tIf) = false) := by show _ = _; unfold PS.sees; rw [hnext]; decide
  have HS3 : Hid (σ.sees (sW tCase) = true) := hsee
  have HF1 := Lib.hid hF1
  have HF2 := Lib.hid hF2
  obtain ⟨tk, tp, tx, tn⟩ := t
  obtain ⟨TX, hTX⟩ : ∃ TX, strB tx = TX := ⟨_, rfl⟩
  have HTX := Lib.hid hTX
  have H0 := Lib.hid h
  have HTS := Lib.hid hts
  have HDC := Lib.hid hdec
  have H1 := Lib.hid (h.begin (.cells #[.int .i64 0, .int .i64 0, .string ⟨#[]⟩, .int .i64 0, .slice none 0 0, .slice none 0 0] 43))
  obtain ⟨i, b, off, h0', hi, hd, ha, hbR, hb, _, _, _, _, _, _⟩ := H1.out.rd.head HTS.out
  obtain ⟨_, _, _, _, _⟩ := five_cells hb
  have hge : decide ((c.ts.length : Int) ≤ (i : Int)) = false := decide_eq_false (by omega)
  have hge2 : decide (c.ts.length ≤ i) = false := decide_eq_false (by omega)
  clear h hR hdec hts hTX hb hd ha h0' HONE hA hE1 hF1 hF2 hQ hr0 hnext l1 l2 l3 l4 l5 hsee hlen HM
  go_enter Try.func57, Try.ntmps57
  go_upto_region 1 with (fail)
  go_quiet (fail)
  go_upto_region 4 with (fail)
  replace H1 := Lib.hid (H1.out.drewN nq)
  obtain ⟨w1, hw1⟩ : ∃ w1, World.drewN (W.alloc (.cells #[.int .i64 0, .int .i64 0, .string ⟨#[]⟩, .int .i64 0, .slice none 0 0, .slice none 0 0] 43)) nq = w1 := ⟨_, rfl⟩
  have hsz1 : W.heap.size + 1 = w1.heap.size := by rw [← hw1]; exact hWs.symm
  rw [hw1] at H1 ⊢
  clear hw1 hge hge2 hbR hi
  obtain ⟨i, b, off, h0', hi, hd, ha, hbR, hb, q0, q1, q2, q3, _, _⟩ := H1.out.rd.head HTS.out
  obtain ⟨_, _, _, _, _⟩ := five_cells hb
  have T9 : ∀ W, Sem.run Try.prog (Instr.indexAt 81 (.slice (some ⟨b, off, none⟩) c.ts.length c.cp) (.int .i64 (i : Int))) W = .ok (.pointer (some ⟨b, off + i * 4, none⟩)) W := fun W => by go_simp
  have hR9 := H1.out.rd.lt
  have hb9 : b < w1.heap.size := by omega
  dsimp only at q0 q1 q2 q3
  have hTX := HTX.out
  rw [hTX] at q2
  clear hb hd ha h0' hTX
  go_region
  go_upto_region 5 with (fail)
  have HX : Hid (Box (w1.alloc (.cells #[.int .i64 (tk : Int), .int .i64 (tp : Int), .string TX, .int .i64 (tn : Int)] 103)).drew w1.heap.size 103 [.int .i64 (tk : Int), .int .i64 (tp : Int), .string TX, .int .i64 (tn : Int)]) := Box.new w1 103 [.int .i64 (tk : Int), .int .i64 (tp : Int), .string TX, .int .i64 (tn : Int)]
  replace H1 := Lib.hid (H1.out.alloc (.cells #[.int .i64 (tk : Int), .int .i64 (tp : Int), .string TX, .int .i64 (tn : Int)] 103)).drew
  obtain ⟨w5, hw5⟩ : ∃ w5, (w1.alloc (.cells #[.int .i64 (tk : Int), .int .i64 (tp : Int), .string TX, .int .i64 (tn : Int)] 103)).drew = w5 := ⟨_, rfl⟩
  obtain ⟨tb, htb⟩ : ∃ tb, w1.heap.size = tb := ⟨_, rfl⟩
  rw [hw5, htb] at HX
  rw [hw5] at H1 ⊢
  rw [htb] at hR9 hsz1
  try rw [htb]
  have hXn : ¬ (tb = c.R) := by omega
  have hXW : tb ≠ W.heap.size := by omega
  clear q0 q1 q2 q3 T9 hbR hi hb9 hw5 htb
  go_upto_region 26 with (first
    | (go_at_call 55; refine (c_try H1.out tBack (askS (by decide) (by decide)) rfl HSK.out).mono ?_; clear H1 HSK; rintro e w6 ⟨rfl, H1, ho1⟩; (try (replace HX := Lib.hid (ho1.box HX.out hXn))); clear ho1; replace H1 := Lib.hid H1)
    | (go_at_call 50; refine (c_peek H1.out (sW tLet) (askW (by decide) (by decide)) rfl rfl HS1.out).mono ?_; clear H1 HS1; rintro e w7 ⟨rfl, H1, ho1⟩; (try (replace HX := Lib.hid (ho1.box HX.out hXn))); clear ho1; replace H1 := Lib.hid H1)
    | (go_at_call 50; refine (c_peek H1.out (sW tIf) (askW (by decide) (by decide)) rfl rfl HS2.out).mono ?_; clear H1 HS2; rintro e w7 ⟨rfl, H1, ho1⟩; (try (replace HX := Lib.hid (ho1.box HX.out hXn))); clear ho1; replace H1 := Lib.hid H1)
    | (go_at_call 50; refine (c_peek H1.out (sW tCase) (askW (by decide) (by decide)) rfl rfl HS3.out).mono ?_; clear H1 HS3; rintro e w8 ⟨rfl, H1, ho1⟩; (try (replace HX := Lib.hid (ho1.box HX.out hXn))); clear ho1; replace H1 := Lib.hid H1))
  obtain ⟨i, b, off, h0', hi, hd, ha, hbR, hb, _, _, _, _, _, _⟩ := H1.out.rd.head HTS.out
  obtain ⟨_, _, _, _, _⟩ := five_cells hb
  obtain ⟨_, _, _, _, _⟩ := five_frozen hb
  obtain ⟨hs1, hs2⟩ := H1.out.step HTS.out h0' hd hi ha hb (Below.refl _ _)
  replace HX := Lib.hid (hs2.box HX.out hXn)
  replace H1 := Lib.hid hs1
  clear hb hd ha h0' hs1 hs2
  obtain ⟨w8b, hw8⟩ : ∃ w8b, w8.setCell ⟨c.R, 1, none⟩ (.int .i64 ((i : Int) + 1)) = w8b := ⟨_, rfl⟩
  replace H1 : Hid (Cay c (W.alloc (.cells #[.int .i64 0, .int .i64 0, .string ⟨#[]⟩, .int .i64 0, .slice none 0 0, .slice none 0 0] 43)) w8b σ.tail) := hw8 ▸ (show Hid (Cay c (W.alloc (.cells #[.int .i64 0, .int .i64 0, .string ⟨#[]⟩, .int .i64 0, .slice none 0 0, .slice none 0 0] 43)) (w8.setCell ⟨c.R, 1, none⟩ (.int .i64 ((i : Int) + 1))) σ.tail) from H1)
  replace HX : Hid (Box w8b tb 103 [.int .i64 (tk : Int), .int .i64 (tp : Int), .string TX, .int .i64 (tn : Int)]) := hw8 ▸ (show Hid (Box (w8.setCell ⟨c.R, 1, none⟩ (.int .i64 ((i : Int) + 1))) tb 103 [.int .i64 (tk : Int), .int .i64 (tp : Int), .string TX, .int .i64 (tn : Int)]) from HX)
  go_upto_region 27 with (fail)
  try rw [hw8]
  clear hw8
  have hnl := HX.out.lt
  go_cut [10] (fun s10 wx => CaseR c (W.alloc (.cells #[.int .i64 0, .int .i64 0, .string ⟨#[]⟩, .int .i64 0, .slice none 0 0, .slice none 0 0] 43)) tp E1 s10 wx)
  case first =>
    have HS0 := Lib.hid (four_cells (Box.drew HX.out)).2.1
    have HSa := Lib.hid (four_cells (Box.drew (HX.out.alloc (.cells #[.int .i64 0, .int .i64 0, .string ⟨#[]⟩, .int .i64 0, .slice none 0 0, .slice none 0 0] 43)))).2.1
    go_region_held3 (fun w' => w'.cell? ⟨tb, 1, none⟩ = some (.int .i64 (tp : Int)))
      (first
        | (with_reducible apply HS0.out)
        | (with_reducible apply HSa.out)
        | (with_reducible apply HS1.out)
        | (with_reducible apply HS2.out)
        | (with_reducible apply HS3.out)
        | (with_reducible apply HS4.out)
        | (with_reducible apply HS5.out)
        | (with_reducible apply HS6.out)
        | (with_reducible apply HS7.out)
        | (with_reducible apply HS8.out)
        | (with_reducible apply HS9.out))
      (first
        | (go_at_call 57; (first | ((with_reducible refine (HY1.out (World.drew w8b) _ (Cay.start (Cay.drew H1.out).rd)).mono ?_); rintro e w4 ⟨v1, xk, rfl, hv1, hx1, H4, ho1⟩; obtain ⟨y0, y1, y2, y3, y4, y5, y6, y7, y8, y9, yhz, _⟩ := hv1.exs; subst yhz; have hoq := Out.drew2 ho1; have hvq : IsV (New (W.alloc (.cells #[.int .i64 0, .int .i64 0, .string ⟨#[]⟩, .int .i64 0, .slice none 0 0, .slice none 0 0] 43))) w4 _ _ := newer (W := World.drew w8b) H1.out.size hv1) | ((with_reducible refine (HY1.out (World.drew (w8b.alloc (.cells #[.int .i64 0, .int .i64 0, .string ⟨#[]⟩, .int .i64 0, .slice none 0 0, .slice none 0 0] 43))) _ (Cay.start (Cay.drew (H1.out.alloc _)).rd)).mono ?_); rintro e w4 ⟨v1, xk, rfl, hv1, hx1, H4, ho1⟩; obtain ⟨y0, y1, y2, y3, y4, y5, y6, y7, y8, y9, yhz, _⟩ := hv1.exs; subst yhz; have hoq := out_alloc ho1; have HP4 := Lib.hid (ho1.box (Box.drew (Box.new w8b 43 [.int .i64 0, .int .i64 0, .string ⟨#[]⟩, .int .i64 0, .slice none 0 0, .slice none 0 0])) (show ¬ (_ = c.R) by have := H1.out.rd.lt; show ¬ (w8b.heap.size = c.R); omega)); obtain ⟨_, _, _, _, _, _⟩ := six_cells HP4.out; obtain ⟨_, _, _, _, _, _⟩ := six_frozen HP4.out; have hp4 := HP4.out.lt; have hvq : IsV (fun b => New (W.alloc (.cells #[.int .i64 0, .int .i64 0, .string ⟨#[]⟩, .int .i64 0, .slice none 0 0, .slice none 0 0] 43)) b ∧ b ≠ w8b.heap.size) w4 _ _ := hv1.mono (fun b hb h => by have h1 := H1.out.size; unfold New at h ⊢; simp at h h1 ⊢; omega))); have HTk := Lib.hid hx1; have HVq := Lib.hid hvq; have HX4 := Lib.hid (hoq.box HX.out hXn); have HS1 := Lib.hid (four_cells (HX4.out)).2.1; have HS2 := Lib.hid (four_cells (HX4.out.alloc (.cells #[.int .i64 0, .int .i64 0, .string ⟨#[]⟩, .int .i64 0, .slice none 0 0, .slice none 0 0] 43))).2.1; have HS3 := Lib.hid (four_cells (HX4.out.alloc (.cells #[.int .i64 y0, .int .i64 y1, .string (strB y3), .int .i64 y2, .slice y4 y6 y8, .slice y5 y7 y9] 43))).2.1; have HS4 := Lib.hid (four_cells ((HX4.out.alloc (.cells #[.int .i64 y0, .int .i64 y1, .string (strB y3), .int .i64 y2, .slice y4 y6 y8, .slice y5 y7 y9] 43)).alloc (.cells #[.int .i64 0, .int .i64 0, .string ⟨#[]⟩, .int .i64 0, .slice none 0 0, .slice none 0 0] 43))).2.1; have HS5 := Lib.hid (four_cells ((HX4.out.alloc (.cells #[.int .i64 0, .int .i64 0, .string ⟨#[]⟩, .int .i64 0, .slice none 0 0, .slice none 0 0] 43)).alloc (.cells #[.int .i64 y0, .int .i64 y1, .string (strB y3), .int .i64 y2, .slice y4 y6 y8, .slice y5 y7 y9] 43))).2.1; have HS6 := Lib.hid (four_cells ((HX4.out.alloc (.cells #[.int .i64 y0, .int .i64 y1, .string (strB y3), .int .i64 y2, .slice y4 y6 y8, .slice y5 y7 y9] 43)).alloc (.cells #[.int .i64 10, .int .i64 (tp : Int), .string ⟨#[]⟩, .int .i64 0, .slice (some ⟨w4.heap.size, 0, none⟩) 1 1, .slice none 0 0] 43))).2.1; have HS7 := Lib.hid (four_cells ((HX4.out.alloc (.cells #[.int .i64 10, .int .i64 (tp : Int), .string ⟨#[]⟩, .int .i64 0, .slice (some ⟨w4.heap.size + 1, 0, none⟩) 1 1, .slice none 0 0] 43)).alloc (.cells #[.int .i64 y0, .int .i64 y1, .string (strB y3), .int .i64 y2, .slice y4 y6 y8, .slice y5 y7 y9] 43))).2.1; have HS8 := Lib.hid (four_cells (Box.set6o HX4.out (B := w8b.heap.size) (by omega) (.int .i64 10) (.int .i64 (tp : Int)) (.string ⟨#[]⟩) (.int .i64 0) (.slice (some ⟨w4.heap.size, 0, none⟩) 1 1) (.slice none 0 0))).2.1; have HS9 := Lib.hid (four_cells ((Box.set6o HX4.out (B := w8b.heap.size) (by omega) (.int .i64 10) (.int .i64 (tp : Int)) (.string ⟨#[]⟩) (.int .i64 0) (.slice (some ⟨w4.heap.size, 0, none⟩) 1 1) (.slice none 0 0)).alloc (.cells #[.int .i64 y0, .int .i64 y1, .string (strB y3), .int .i64 y2, .slice y4 y6 y8, .slice y5 y7 y9] 43))).2.1; have hn4 := HX4.out.lt; replace H4 := Lib.hid (H1.out.next H4.rd hoq); have HOQ := Lib.hid hoq; clear ho1 hoq hv1 hvq hx1)
        | fail)
    all_goals (rename_i hh; clear hh HS0 HS1 HS2 HS3 HS4 HS5 HS6 HS7 HS8 HS9 HSa)
    all_goals (first
      | (have q3 := (H4.out.alloc (.cells #[.int .i64 y0, .int .i64 y1, .string (strB y3), .int .i64 y2, .slice y4 y6 y8, .slice y5 y7 y9] 43)).alloc (.cells #[.int .i64 10, .int .i64 (tp : Int), .string ⟨#[]⟩, .int .i64 0, .slice (some ⟨w4.heap.size, 0, none⟩) 1 1, .slice none 0 0] 43); have q6 := (HX4.out.alloc (.cells #[.int .i64 y0, .int .i64 y1, .string (strB y3), .int .i64 y2, .slice y4 y6 y8, .slice y5 y7 y9] 43)).alloc (.cells #[.int .i64 10, .int .i64 (tp : Int), .string ⟨#[]⟩, .int .i64 0, .slice (some ⟨w4.heap.size, 0, none⟩) 1 1, .slice none 0 0] 43); have q4 := Box.new (w4.alloc (.cells #[.int .i64 y0, .int .i64 y1, .string (strB y3), .int .i64 y2, .slice y4 y6 y8, .slice y5 y7 y9] 43)) 43 [.int .i64 10, .int .i64 (tp : Int), .string ⟨#[]⟩, .int .i64 0, .slice (some ⟨w4.heap.size, 0, none⟩) 1 1, .slice none 0 0]; have q5 : InC (fun b => New (W.alloc (.cells #[.int .i64 0, .int .i64 0, .string ⟨#[]⟩, .int .i64 0, .slice none 0 0, .slice none 0 0] 43)) b ∧ b ≠ (w4.alloc (.cells #[.int .i64 y0, .int .i64 y1, .string (strB y3), .int .i64 y2, .slice y4 y6 y8, .slice y5 y7 y9] 43)).heap.size) ((w4.alloc (.cells #[.int .i64 y0, .int .i64 y1, .string (strB y3), .int .i64 y2, .slice y4 y6 y8, .slice y5 y7 y9] 43)).alloc (.cells #[.int .i64 10, .int .i64 (tp : Int), .string ⟨#[]⟩, .int .i64 0, .slice (some ⟨w4.heap.size, 0, none⟩) 1 1, .slice none 0 0] 43)) (.s 1 6 (exC xk)) (.slice (some ⟨w4.heap.size, 0, none⟩) 1 1) := (InC.of_new (n := 1) (k := 6) (t := 43) (us := [.int .i64 y0, .int .i64 y1, .string (strB y3), .int .i64 y2, .slice y4 y6 y8, .slice y5 y7 y9]) (by have := (HVq.out.mono (S' := fun b => New (W.alloc (.cells #[.int .i64 0, .int .i64 0, .string ⟨#[]⟩, .int .i64 0, .slice none 0 0, .slice none 0 0] 43)) b ∧ b ≠ (w4.alloc (.cells #[.int .i64 y0, .int .i64 y1, .string (strB y3), .int .i64 y2, .slice y4 y6 y8, .slice y5 y7 y9] 43)).heap.size) (fun b hb h => ⟨h, by simp; omega⟩)).cells; simpa [Value.cells] using this) (by have := H4.out.size; exact ⟨this, by simp⟩) (by rw [exC_len]) (by decide)).alloc _; rw [World.size_alloc] at q4 q5; go_wp2_with fail; go_meet; exact ⟨_, _, xk, rfl, q3, q4, q5, HTk.out, (by have := H4.out.rd.lt; have := H1.out.rd.lt; first | omega | (simp; omega)), (by have h7 := H4.out.size; have h8 := H1.out.size; first | omega | (simp at h7 h8 ⊢; omega))⟩)
      | (have q3 := (H4.out.alloc (.cells #[.int .i64 10, .int .i64 (tp : Int), .string ⟨#[]⟩, .int .i64 0, .slice (some ⟨w4.heap.size + 1, 0, none⟩) 1 1, .slice none 0 0] 43)).alloc (.cells #[.int .i64 y0, .int .i64 y1, .string (strB y3), .int .i64 y2, .slice y4 y6 y8, .slice y5 y7 y9] 43); have q6 := (HX4.out.alloc (.cells #[.int .i64 10, .int .i64 (tp : Int), .string ⟨#[]⟩, .int .i64 0, .slice (some ⟨w4.heap.size + 1, 0, none⟩) 1 1, .slice none 0 0] 43)).alloc (.cells #[.int .i64 y0, .int .i64 y1, .string (strB y3), .int .i64 y2, .slice y4 y6 y8, .slice y5 y7 y9] 43); have q4 := (Box.new w4 43 [.int .i64 10, .int .i64 (tp : Int), .string ⟨#[]⟩, .int .i64 0, .slice (some ⟨w4.heap.size + 1, 0, none⟩) 1 1, .slice none 0 0]).alloc (.cells #[.int .i64 y0, .int .i64 y1, .string (strB y3), .int .i64 y2, .slice y4 y6 y8, .slice y5 y7 y9] 43); have q5 : InC (fun b => New (W.alloc (.cells #[.int .i64 0, .int .i64 0, .string ⟨#[]⟩, .int .i64 0, .slice none 0 0, .slice none 0 0] 43)) b ∧ b ≠ w4.heap.size) ((w4.alloc (.cells #[.int .i64 10, .int .i64 (tp : Int), .string ⟨#[]⟩, .int .i64 0, .slice (some ⟨w4.heap.size + 1, 0, none⟩) 1 1, .slice none 0 0] 43)).alloc (.cells #[.int .i64 y0, .int .i64 y1, .string (strB y3), .int .i64 y2, .slice y4 y6 y8, .slice y5 y7 y9] 43)) (.s 1 6 (exC xk)) (.slice (some ⟨(w4.alloc (.cells #[.int .i64 10, .int .i64 (tp : Int), .string ⟨#[]⟩, .int .i64 0, .slice (some ⟨w4.heap.size + 1, 0, none⟩) 1 1, .slice none 0 0] 43)).heap.size, 0, none⟩) 1 1) := (InC.of_new (n := 1) (k := 6) (t := 43) (us := [.int .i64 y0, .int .i64 y1, .string (strB y3), .int .i64 y2, .slice y4 y6 y8, .slice y5 y7 y9]) (by have := ((HVq.out.mono (S' := fun b => New (W.alloc (.cells #[.int .i64 0, .int .i64 0, .string ⟨#[]⟩, .int .i64 0, .slice none 0 0, .slice none 0 0] 43)) b ∧ b ≠ w4.heap.size) (fun b hb h => ⟨h, by omega⟩)).under ((Below.refl _ w4).alloc (Nat.le_refl _) (.cells #[.int .i64 10, .int .i64 (tp : Int), .string ⟨#[]⟩, .int .i64 0, .slice (some ⟨w4.heap.size + 1, 0, none⟩) 1 1, .slice none 0 0] 43))).cells; simpa [Value.cells] using this) (by have h7 := H4.out.size; exact ⟨by unfold New; simp at h7 ⊢; omega, by simp⟩) (by rw [exC_len]) (by decide)); rw [World.size_alloc] at q5; go_wp2_with fail; go_meet; exact ⟨_, _, xk, rfl, q3, q4, q5, HTk.out, (by have := H4.out.rd.lt; have := H1.out.rd.lt; first | omega | (simp; omega)), (by have h7 := H4.out.size; have h8 := H1.out.size; first | omega | (simp at h7 h8 ⊢; omega))⟩)
      | (have q3 := (cay_six H4.out (B := w8b.heap.size) H1.out.size (.int .i64 10) (.int .i64 (tp : Int)) (.string ⟨#[]⟩) (.int .i64 0) (.slice (some ⟨w4.heap.size, 0, none⟩) 1 1) (.slice none 0 0)).alloc (.cells #[.int .i64 y0, .int .i64 y1, .string (strB y3), .int .i64 y2, .slice y4 y6 y8, .slice y5 y7 y9] 43); have q6 := (Box.set6o HX4.out (B := w8b.heap.size) (by omega) (.int .i64 10) (.int .i64 (tp : Int)) (.string ⟨#[]⟩) (.int .i64 0) (.slice (some ⟨w4.heap.size, 0, none⟩) 1 1) (.slice none 0 0)).alloc (.cells #[.int .i64 y0, .int .i64 y1, .string (strB y3), .int .i64 y2, .slice y4 y6 y8, .slice y5 y7 y9] 43); have q4 := (box_six (v0 := .int .i64 10) (v1 := .int .i64 (tp : Int)) (v2 := .string ⟨#[]⟩) (v3 := .int .i64 0) (v4 := .slice (some ⟨w4.heap.size, 0, none⟩) 1 1) (v5 := .slice none 0 0) HP4.out rfl).alloc (.cells #[.int .i64 y0, .int .i64 y1, .string (strB y3), .int .i64 y2, .slice y4 y6 y8, .slice y5 y7 y9] 43); have q5 : InC (fun b => New (W.alloc (.cells #[.int .i64 0, .int .i64 0, .string ⟨#[]⟩, .int .i64 0, .slice none 0 0, .slice none 0 0] 43)) b ∧ b ≠ w8b.heap.size) (((((((w4.setCell ⟨w8b.heap.size, 0, none⟩ (.int .i64 10)).setCell ⟨w8b.heap.size, 1, none⟩ (.int .i64 (tp : Int))).setCell ⟨w8b.heap.size, 2, none⟩ (.string ⟨#[]⟩)).setCell ⟨w8b.heap.size, 3, none⟩ (.int .i64 0)).setCell ⟨w8b.heap.size, 4, none⟩ (.slice (some ⟨w4.heap.size, 0, none⟩) 1 1)).setCell ⟨w8b.heap.size, 5, none⟩ (.slice none 0 0)).alloc (.cells #[.int .i64 y0, .int .i64 y1, .string (strB y3), .int .i64 y2, .slice y4 y6 y8, .slice y5 y7 y9] 43)) (.s 1 6 (exC xk)) (.slice (some ⟨((((((w4.setCell ⟨w8b.heap.size, 0, none⟩ (.int .i64 10)).setCell ⟨w8b.heap.size, 1, none⟩ (.int .i64 (tp : Int))).setCell ⟨w8b.heap.size, 2, none⟩ (.string ⟨#[]⟩)).setCell ⟨w8b.heap.size, 3, none⟩ (.int .i64 0)).setCell ⟨w8b.heap.size, 4, none⟩ (.slice (some ⟨w4.heap.size, 0, none⟩) 1 1)).setCell ⟨w8b.heap.size, 5, none⟩ (.slice none 0 0)).heap.size, 0, none⟩) 1 1) := (InC.of_new (n := 1) (k := 6) (t := 43) (us := [.int .i64 y0, .int .i64 y1, .string (strB y3), .int .i64 y2, .slice y4 y6 y8, .slice y5 y7 y9]) (by have := (HVq.out.agree (w' := ((((((w4.setCell ⟨w8b.heap.size, 0, none⟩ (.int .i64 10)).setCell ⟨w8b.heap.size, 1, none⟩ (.int .i64 (tp : Int))).setCell ⟨w8b.heap.size, 2, none⟩ (.string ⟨#[]⟩)).setCell ⟨w8b.heap.size, 3, none⟩ (.int .i64 0)).setCell ⟨w8b.heap.size, 4, none⟩ (.slice (some ⟨w4.heap.size, 0, none⟩) 1 1)).setCell ⟨w8b.heap.size, 5, none⟩ (.slice none 0 0))) (S' := fun b => New (W.alloc (.cells #[.int .i64 0, .int .i64 0, .string ⟨#[]⟩, .int .i64 0, .slice none 0 0, .slice none 0 0] 43)) b ∧ b ≠ w8b.heap.size) (fun b h1 h2 => ⟨h1, other_six _ _ _ _ _ _ _ h1.2⟩) (by simp)).cells; simpa [Value.cells] using this) (by have h7 := H4.out.size; exact ⟨by unfold New; simp at h7 ⊢; omega, by simp; omega⟩) (by rw [exC_len]) (by decide)); simp only [World.size_setCell] at q5; go_wp2_with fail; go_meet; exact ⟨_, _, xk, rfl, q3, q4, q5, HTk.out, (by have := H4.out.rd.lt; have := H1.out.rd.lt; first | omega | (simp; omega)), (by have h7 := H4.out.size; have h8 := H1.out.size; first | omega | (simp at h7 h8 ⊢; omega))⟩))
  case rest =>
    obtain ⟨pb, kb, xk, rfl, hq3, hq4, hq5, hq7, hpr, hpl⟩ := hcut
    have hR4 := hR0
    replace H1 := Lib.hid hq3
    have HB := Lib.hid hq4
    have HK := Lib.hid hq5
    have HTk := Lib.hid hq7
    clear hq3 hq4 hq5 hq7 HX hnl
    go_upto_region 30 with (first
      | (go_at_call 51; refine (c_eat H1.out (sW tOf) (askW (by decide) (by decide)) (by decide) rfl rfl HF1.out).mono ?_; clear H1 HF1; rintro e w2 ⟨rfl, H1, ho1⟩; replace HB := Lib.hid (ho1.box HB.out hpr); replace HK := Lib.hid (HK.out.out ho1 (fun b _ hb e => by have := hb.1; have e2 : b = c.R := e; unfold New at this; omega)); clear ho1; replace H1 := Lib.hid H1)
      | (go_at_call 53; refine (c_sign H1.out tLcur (askS (by decide) (by decide)) rfl HF2.out).mono ?_; clear H1 HF2; rintro e w3 ⟨rfl, H1, ho1⟩; replace HB := Lib.hid (ho1.box HB.out hpr); replace HK := Lib.hid (HK.out.out ho1 (fun b _ hb e => by have := hb.1; have e2 : b = c.R := e; unfold New at this; omega)); clear ho1; replace H1 := Lib.hid H1))
    obtain ⟨V1, hV1⟩ : ∃ V1, V1 = w3 := ⟨_, rfl⟩
    have hVs : V1.heap.size = w3.heap.size := by rw [hV1]
    have HG : Hid (GH V1 pb 43 [.int .i64 10, .int .i64 (tp : Int), .string ⟨#[]⟩, .int .i64 0, .slice (some ⟨kb, 0, none⟩) 1 1] [] 161 9 w3 (.slice none 0 0) 0 [] []) := by rw [hV1]; exact GH.start HB.out rfl
    replace HK : Hid (InC (fun b => New (W.alloc (.cells #[.int .i64 0, .int .i64 0, .string ⟨#[]⟩, .int .i64 0, .slice none 0 0, .slice none 0 0] 43)) b ∧ b ≠ pb ∧ b < V1.heap.size) w3 (.s 1 6 (exC xk)) (.slice (some ⟨kb, 0, none⟩) 1 1)) := HK.out.mono (fun b hb h => ⟨h.1, h.2, by omega⟩)
    have hpR : c.R < V1.heap.size := by have := H1.out.rd.lt; omega
    have HVs := Lib.hid hVs
    have HAK : Hid (Calls Try.prog 104 #[.pointer (some ⟨c.R, 0, none⟩)] w3.drew (TellsY c w3 w3.drew alC r0)) := by
      have hdo : Out (fun b => b = c.R) w3 w3.drew := ⟨rfl, rfl, rfl, Nat.le_refl _, fun _ _ _ => rfl⟩
      rw [← HR00.out]
      exact HAL.out _ _ F2.2 ⟨H1.out.rd.drew, hdo, H1.out.rd.lt⟩ hFn
    clear hV1 hVs HB
    have HLW := Lib.hid HG.out.gr.lt
    have hBw := HG.out.box.lt
    have hpV := HG.out.lt
    have hle3 := HG.out.le
    have hR3 := H1.out.rd.lt
    have hbq := (show Box _ _ _ [.int .i64 10, .int .i64 (tp : Int), .string ⟨#[]⟩, .int .i64 0, .slice (some ⟨kb, 0, none⟩) 1 1, .slice none 0 0] from HG.out.box)
    obtain ⟨_, _, _, _, _, _⟩ := six_cells hbq
    obtain ⟨_, _, _, _, _, _⟩ := six_frozen hbq
    clear hbq
    have Q1 : Hid (0 + 1 ≤ maxLen) := by unfold maxLen; show _ ≤ _; omega
    have Q2 : Hid ((0 + 1) * 136 ≤ 140737488355328) := by show _ ≤ _; omega
    go_cut [] (fun wx => CaseS c (W.alloc (.cells #[.int .i64 0, .int .i64 0, .string ⟨#[]⟩, .int .i64 0, .slice none 0 0, .slice none 0 0] 43)) V1 pb kb tp xk r0 wx)
    case first =>
      go_region_law (first
        | (refine step_append_lies _ rfl _ _ 41 rfl V1.heap.size 161 i0 (.agg #[.int .i64 0, .string ⟨#[]⟩, .slice none 0 0, .int .i64 0, .int .i64 0, .string ⟨#[]⟩, .int .i64 0, .slice none 0 0, .slice none 0 0]) 9 136 Try.underlying41 hi0 hz0 hz1 hz2 rfl (by decide) (.slice none 0 0) 0 [] rfl (HR4.out.alloc _) ⟨w4.heap.size, 0, none⟩ 1 1 [.int .i64 g0, .string (strB g1), .slice g2 g3 g4, .int .i64 g5, .int .i64 g6, .string (strB g8), .int .i64 g7, .slice g9 gb gd, .slice ga gc ge] rfl rfl (news_at (cs := [.int .i64 g0, .string (strB g1), .slice g2 g3 g4, .int .i64 g5, .int .i64 g6, .string (strB g8), .int .i64 g7, .slice g9 gb gd, .slice ga gc ge]) rfl) (by simp [Value.oneCell']) (by decide) Q1.out Q2.out Q3.out _ rfl ?_; intro g cap w9 hown9 hgrow hat hlt9; have z9 := (HG4.out.box.alloc (.cells #[.int .i64 g0, .string (strB g1), .slice g2 g3 g4, .int .i64 g5, .int .i64 g6, .string (strB g8), .int .i64 g7, .slice g9 gb gd, .slice ga gc ge] 161)).grown hgrow HnB.out; have hbq := (show Box _ _ _ [.int .i64 10, .int .i64 (tp : Int), .string ⟨#[]⟩, .int .i64 0, .slice (some ⟨kb, 0, none⟩) 1 1, .slice none 0 0] from z9); obtain ⟨_, _, _, _, _, _⟩ := six_cells hbq; obtain ⟨_, _, _, _, _, _⟩ := six_frozen hbq; clear hbq; have hz9 := z9.lt; have HOWN := Lib.hid hown9; have HGR := Lib.hid hgrow; rw [World.size_alloc] at hat; have HAT := Lib.hid hat; clear z9 hown9 hgrow hat)
        | (refine step_plainz rfl ?_; go_simp; go_at_call 104; (with_reducible refine (HAK.out).mono ?_); rintro e w4 ⟨v, xq, rfl, hv, hxq, hc4, ho1⟩; obtain ⟨g0, g1, g2, g3, g4, g5, g6, g7, g8, g9, ga, gb, gc, gd, ge, ghz⟩ := hv.al; subst ghz; have HG4 := Lib.hid (HG.out.out ho1.drew2 (fun q => hpr q.symm) hpR); have HC4 := Lib.hid (H1.out.next hc4.rd ho1.drew2); have HD4 := Lib.hid hv.cells; have HXQ := Lib.hid hxq; have HO4 := Lib.hid ho1.drew2; have hbq := (show Box _ _ _ [.int .i64 10, .int .i64 (tp : Int), .string ⟨#[]⟩, .int .i64 0, .slice (some ⟨kb, 0, none⟩) 1 1, .slice none 0 0] from HG4.out.box); obtain ⟨_, _, _, _, _, _⟩ := six_cells hbq; obtain ⟨_, _, _, _, _, _⟩ := six_frozen hbq; clear hbq; have hBw4 := HG4.out.box.lt; have HR4 : Hid (w4.ownsRow V1.heap.size 161 9 (.slice none 0 0) 0 []) := HG4.out.gr.1; have Q3 : Hid (V1.heap.size ≤ (w4.alloc (.cells #[.int .i64 g0, .string (strB g1), .slice g2 g3 g4, .int .i64 g5, .int .i64 g6, .string (strB g8), .int .i64 g7, .slice g9 gb gd, .slice ga gc ge] 161)).heap.size) := (by have := HG4.out.le; show V1.heap.size ≤ _; rw [World.size_alloc]; omega); have HnB : Hid (some pb ≠ Value.ownBlock (.slice none 0 0)) := (fun q => by have := (HLW.out pb q.symm).1; omega); clear hv hxq hc4 ho1))
      all_goals (have HG9 := Lib.hid (HG4.out.push (W2 := w3) (i := 5) (ds := alC xq) (vs := [.int .i64 g0, .string (strB g1), .slice g2 g3 g4, .int .i64 g5, .int .i64 g6, .string (strB g8), .int .i64 g7, .slice g9 gb gd, .slice ga gc ge]) rfl (by simpa [Value.cells] using HD4.out) (fun q hq => (HLW.out q hq).2) hle3 HOWN.out HGR.out HAT.out))
      all_goals (have HC9 := Lib.hid (((HC4.out.alloc _).grow HGR.out (fun q hq => by have := (HLW.out q hq).1; omega)).put hpl 5 (.slice (some ⟨g, 0, none⟩) 1 cap)))
      all_goals (have HBK := Lib.hid (fun b hb hn hr => (HG4.out.block (i := 5) (u := .slice (some ⟨g, 0, none⟩) 1 cap) HGR.out b hb hn).trans (HO4.out.block b (Nat.lt_of_lt_of_le hb hle3) hr) : ∀ b, b < V1.heap.size → b ≠ pb → ¬ (b = c.R) → (w9.setCell ⟨pb, 5, none⟩ (.slice (some ⟨g, 0, none⟩) 1 cap)).heap[b]? = w3.heap[b]?))
      all_goals (have HSZ9 : Hid (w3.heap.size ≤ (w9.setCell ⟨pb, 5, none⟩ (.slice (some ⟨g, 0, none⟩) 1 cap)).heap.size) := (by have h1 := HO4.out.size; have h2 := HGR.out.size; show _ ≤ _; simp at h2 ⊢; omega))
      all_goals (clear HAT HGR HOWN HD4 HC4 HG4 HAK HR4 HO4)
      all_goals (have HK9 := Lib.hid (HK.out.agree (w' := w9.setCell ⟨pb, 5, none⟩ (.slice (some ⟨g, 0, none⟩) 1 cap)) (S' := (fun b => New (W.alloc (.cells #[.int .i64 0, .int .i64 0, .string ⟨#[]⟩, .int .i64 0, .slice none 0 0, .slice none 0 0] 43)) b ∧ b ≠ pb ∧ b < V1.heap.size)) (fun b h1 h2 => ⟨h1, HBK.out b h1.2.2 h1.2.1 (fun e => by have h3 := h1.1; have e2 : b = c.R := e; unfold New at h3; omega)⟩) (HSZ9.out)))
      all_goals (replace HG9 : Hid (GH V1 pb 43 [.int .i64 10, .int .i64 (tp : Int), .string ⟨#[]⟩, .int .i64 0, .slice (some ⟨kb, 0, none⟩) 1 1] [] 161 9 (w9.setCell ⟨pb, 5, none⟩ (.slice (some ⟨g, 0, none⟩) 1 cap)) (.slice (some ⟨g, 0, none⟩) 1 cap) 1 (alC xq) [.int .i64 g0, .string (strB g1), .slice g2 g3 g4, .int .i64 g5, .int .i64 g6, .string (strB g8), .int .i64 g7, .slice g9 gb gd, .slice ga gc ge]) := Lib.hid (by simpa using HG9.out))
      all_goals (clear HK HBK)
      all_goals go_wp2_with fail
      all_goals go_meet
      all_goals exact ⟨g, cap, xq, _, HC9.out, HG9.out, HK9.out, HXQ.out⟩
    case rest =>
      obtain ⟨g, cap, xq, us1, hC9, hG9, hK9, hXQ⟩ := hcut
      have HC9 := Lib.hid hC9
      have HG9 := Lib.hid hG9
      have HK9 := Lib.hid hK9
      have HXQ := Lib.hid hXQ
      clear hC9 hG9 hK9 hXQ HK H1 HG
      go_wp2_with fail
      go_loopg [] (r0.2.ts.length) (fun gn wr => ∃ (l dl : List Al) (τ : PS) (v : Value) (us : List Value) (f : Nat), Hid (Cay c (W.alloc (.cells #[.int .i64 0, .int .i64 0, .string ⟨#[]⟩, .int .i64 0, .slice none 0 0, .slice none 0 0] 43)) wr τ) ∧ Hid (GH V1 pb 43 [.int .i64 10, .int .i64 (tp : Int), .string ⟨#[]⟩, .int .i64 0, .slice (some ⟨kb, 0, none⟩) 1 1] [] 161 9 wr v dl.length (dl.flatMap alC) us) ∧ Hid (InC (fun b => New (W.alloc (.cells #[.int .i64 0, .int .i64 0, .string ⟨#[]⟩, .int .i64 0, .slice none 0 0, .slice none 0 0] 43)) b ∧ b ≠ pb ∧ b < V1.heap.size) wr (.s 1 6 (exC xk)) (.slice (some ⟨kb, 0, none⟩) 1 1)) ∧ Hid (rowsL (sS tSemi) many (altF c.En X) f l τ = Q) ∧ Hid (τ.st = false → dl = l) ∧ l.length = dl.length ∧ gn = τ.ts.length ∧ τ.ts.length ≤ f ∧ dl.length + τ.ts.length ≤ 65536 ∧ τ.ts.length < n)
      case atStart => exact ⟨[r0.1], [xq], r0.2, _, _, r0.2.ts.length, HC9, by simpa using HG9, HK9, HQ0, fun h => by rw [HXQ.out h], rfl, rfl, Nat.le_refl _, by simp; omega, hrn⟩
      case round =>
        obtain ⟨l, dl, τ, v, us, f, H1, HG, HK, HL, HD, hll, rfl, hf, hl, hn⟩ := hrel
        clear HQ0 HC9 HG9 HK9 HXQ
        obtain ⟨va, vc, hv⟩ := HG.out.shape
        subst hv
        cases hs : τ.sees (sS tSemi) with
        | true =>
          obtain ⟨f', hf1, hf2, hf3⟩ := rowsL_go (l := l) (most := many) hf (by have h7 := sees_pos hs (sS_ne _); unfold many; omega) hs (sS_ne _) HAD.out
          have HL2 : Hid (rowsL (sS tSemi) many (altF c.En X) f' (l ++ [(altF c.En X τ.tail).1]) (altF c.En X τ.tail).2 = Q) := by show _ = _; rw [← hf1]; exact HL.out
          have HSC : Hid (τ.skip (sS tSemi) = (true, τ.tail)) := by show _ = _; unfold PS.skip; rw [if_pos hs]
          have htl : τ.tail.ts.length < n := by rw [tail_len]; omega
          have hon : (altF c.En X τ.tail).2.ts.length < n := by omega
          have HDL : Hid (dl = l) := by
            refine HD.out ?_
            obtain ⟨i1, _, _, _, hemp⟩ := H1.out.rd.box
            cases q : τ.st with
            | false => rfl
            | true => have := hemp q; rw [this] at hf3; simp at hf3
          clear hs hf1 HL HD
          go_wp2_with (go_at_call 55; refine (c_try H1.out tSemi (askS (by decide) (by decide)) rfl HSC.out).mono ?_; clear H1; rintro e w3 ⟨rfl, H1, ho1⟩; replace HG := Lib.hid (HG.out.out ho1 (fun q => hpr q.symm) hpR); replace HK := Lib.hid (HK.out.out ho1 (fun b _ hb e => by have := hb.1; have e2 : b = c.R := e; unfold New at this; omega)); clear ho1; replace H1 := Lib.hid H1)
          have HAK : Hid (Calls Try.prog 104 #[.pointer (some ⟨c.R, 0, none⟩)] w3.drew (TellsY c w3 w3.drew alC (altF c.En X τ.tail))) := by
            have hdo : Out (fun b => b = c.R) w3 w3.drew := ⟨rfl, rfl, rfl, Nat.le_refl _, fun _ _ _ => rfl⟩
            exact HAL.out _ _ τ.tail ⟨H1.out.rd.drew, hdo, H1.out.rd.lt⟩ htl
          have HLW := Lib.hid HG.out.gr.lt
          have hBw := HG.out.box.lt
          have hpV := HG.out.lt
          have hle3 := HG.out.le
          have hR3 := H1.out.rd.lt
          have hbq := (show Box _ _ _ [.int .i64 10, .int .i64 (tp : Int), .string ⟨#[]⟩, .int .i64 0, .slice (some ⟨kb, 0, none⟩) 1 1, .slice va dl.length vc] from HG.out.box)
          obtain ⟨_, _, _, _, _, _⟩ := six_cells hbq
          obtain ⟨_, _, _, _, _, _⟩ := six_frozen hbq
          clear hbq
          have Q1 : Hid (dl.length + 1 ≤ maxLen) := by unfold maxLen; show _ ≤ _; omega
          have Q2 : Hid ((dl.length + 1) * 136 ≤ 140737488355328) := by show _ ≤ _; omega
          go_region_law (first
            | (refine step_append_lies _ rfl _ _ 41 rfl V1.heap.size 161 i0 (.agg #[.int .i64 0, .string ⟨#[]⟩, .slice none 0 0, .int .i64 0, .int .i64 0, .string ⟨#[]⟩, .int .i64 0, .slice none 0 0, .slice none 0 0]) 9 136 Try.underlying41 hi0 hz0 hz1 hz2 rfl (by decide) (.slice va dl.length vc) dl.length us rfl (HR4.out.alloc _) ⟨w4.heap.size, 0, none⟩ 1 1 [.int .i64 g0, .string (strB g1), .slice g2 g3 g4, .int .i64 g5, .int .i64 g6, .string (strB g8), .int .i64 g7, .slice g9 gb gd, .slice ga gc ge] rfl rfl (news_at (cs := [.int .i64 g0, .string (strB g1), .slice g2 g3 g4, .int .i64 g5, .int .i64 g6, .string (strB g8), .int .i64 g7, .slice g9 gb gd, .slice ga gc ge]) rfl) (by simp [Value.oneCell']) (by decide) Q1.out Q2.out Q3.out _ rfl ?_; intro g cap w9 hown9 hgrow hat hlt9; have z9 := (HG4.out.box.alloc (.cells #[.int .i64 g0, .string (strB g1), .slice g2 g3 g4, .int .i64 g5, .int .i64 g6, .string (strB g8), .int .i64 g7, .slice g9 gb gd, .slice ga gc ge] 161)).grown hgrow HnB.out; have hbq := (show Box _ _ _ [.int .i64 10, .int .i64 (tp : Int), .string ⟨#[]⟩, .int .i64 0, .slice (some ⟨kb, 0, none⟩) 1 1, .slice va dl.length vc] from z9); obtain ⟨_, _, _, _, _, _⟩ := six_cells hbq; obtain ⟨_, _, _, _, _, _⟩ := six_frozen hbq; clear hbq; have hz9 := z9.lt; have HOWN := Lib.hid hown9; have HGR := Lib.hid hgrow; rw [World.size_alloc] at hat; have HAT := Lib.hid hat; clear z9 hown9 hgrow hat)
            | (refine step_plainz rfl ?_; go_simp; go_at_call 104; (with_reducible refine (HAK.out).mono ?_); rintro e w4 ⟨v, xq, rfl, hv, hxq, hc4, ho1⟩; obtain ⟨g0, g1, g2, g3, g4, g5, g6, g7, g8, g9, ga, gb, gc, gd, ge, ghz⟩ := hv.al; subst ghz; have HG4 := Lib.hid (HG.out.out ho1.drew2 (fun q => hpr q.symm) hpR); have HC4 := Lib.hid (H1.out.next hc4.rd ho1.drew2); have HD4 := Lib.hid hv.cells; have HXQ := Lib.hid hxq; have HO4 := Lib.hid ho1.drew2; have hbq := (show Box _ _ _ [.int .i64 10, .int .i64 (tp : Int), .string ⟨#[]⟩, .int .i64 0, .slice (some ⟨kb, 0, none⟩) 1 1, .slice va dl.length vc] from HG4.out.box); obtain ⟨_, _, _, _, _, _⟩ := six_cells hbq; obtain ⟨_, _, _, _, _, _⟩ := six_frozen hbq; clear hbq; have hBw4 := HG4.out.box.lt; have HR4 : Hid (w4.ownsRow V1.heap.size 161 9 (.slice va dl.length vc) dl.length us) := HG4.out.gr.1; have Q3 : Hid (V1.heap.size ≤ (w4.alloc (.cells #[.int .i64 g0, .string (strB g1), .slice g2 g3 g4, .int .i64 g5, .int .i64 g6, .string (strB g8), .int .i64 g7, .slice g9 gb gd, .slice ga gc ge] 161)).heap.size) := (by have := HG4.out.le; show V1.heap.size ≤ _; rw [World.size_alloc]; omega); have HnB : Hid (some pb ≠ Value.ownBlock (.slice va dl.length vc)) := (fun q => by have := (HLW.out pb q.symm).1; omega); clear hv hxq hc4 ho1))
          all_goals (have HG9 := Lib.hid (HG4.out.push (W2 := w3) (i := 5) (ds := alC xq) (vs := [.int .i64 g0, .string (strB g1), .slice g2 g3 g4, .int .i64 g5, .int .i64 g6, .string (strB g8), .int .i64 g7, .slice g9 gb gd, .slice ga gc ge]) rfl (by simpa [Value.cells] using HD4.out) (fun q hq => (HLW.out q hq).2) hle3 HOWN.out HGR.out HAT.out))
          all_goals (have HC9 := Lib.hid (((HC4.out.alloc _).grow HGR.out (fun q hq => by have := (HLW.out q hq).1; omega)).put hpl 5 (.slice (some ⟨g, 0, none⟩) (dl.length + 1) cap)))
          all_goals (have HBK := Lib.hid (fun b hb hn hr => (HG4.out.block (i := 5) (u := .slice (some ⟨g, 0, none⟩) (dl.length + 1) cap) HGR.out b hb hn).trans (HO4.out.block b (Nat.lt_of_lt_of_le hb hle3) hr) : ∀ b, b < V1.heap.size → b ≠ pb → ¬ (b = c.R) → (w9.setCell ⟨pb, 5, none⟩ (.slice (some ⟨g, 0, none⟩) (dl.length + 1) cap)).heap[b]? = w3.heap[b]?))
          all_goals (have HSZ9 : Hid (w3.heap.size ≤ (w9.setCell ⟨pb, 5, none⟩ (.slice (some ⟨g, 0, none⟩) (dl.length + 1) cap)).heap.size) := (by have h1 := HO4.out.size; have h2 := HGR.out.size; show _ ≤ _; simp at h2 ⊢; omega))
          all_goals (clear HAT HGR HOWN HD4 HC4 HG4 HAK HR4 HO4)
          all_goals (have HK9 : Hid (InC (fun b => New (W.alloc (.cells #[.int .i64 0, .int .i64 0, .string ⟨#[]⟩, .int .i64 0, .slice none 0 0, .slice none 0 0] 43)) b ∧ b ≠ pb ∧ b < V1.heap.size) (w9.setCell ⟨pb, 5, none⟩ (.slice (some ⟨g, 0, none⟩) (dl.length + 1) cap)) (.s 1 6 (exC xk)) (.slice (some ⟨kb, 0, none⟩) 1 1)) := HK.out.agree (fun b h1 h2 => ⟨h1, HBK.out b h1.2.2 h1.2.1 (fun e => by have h3 := h1.1; have e2 : b = c.R := e; unfold New at h3; omega)⟩) (HSZ9.out))
          all_goals (clear HK HBK)
          all_goals go_wp2_with fail
          all_goals go_roundg (altF c.En X τ.tail).2.ts.length
          all_goals first
            | exact hf3
            | exact ⟨l ++ [(altF c.En X τ.tail).1], dl ++ [xq], (altF c.En X τ.tail).2, _, _, f', HC9, by simpa [List.flatMap_append] using HG9, HK9, HL2, fun h => by rw [HDL.out, HXQ.out h], by simp; omega, rfl, hf2, by simp; omega, hon⟩
        | false =>
          have HE : Hid (Q = (l, τ)) := by show _ = _; rw [← HL.out]; exact rowsL_end (by rw [hs]; simp)
          have HSC : Hid (τ.skip (sS tSemi) = (false, τ)) := by show _ = _; unfold PS.skip; rw [if_neg (by rw [hs]; decide)]
          obtain ⟨F3, hF3⟩ : ∃ F3, τ.take c.En (sS tRcur) = F3 := ⟨_, rfl⟩
          have HRR : Hid (R = (.mk 10 tp [] 0 [E1.1] l, F3.2)) := by show _ = _; rw [HR.out, HE.out, ← hF3]
          have HT9 : Hid (F3.2.st = false → dl = l ∧ xk = E1.1) := fun h => by
            have h1 : τ.st = false := PS.take_st (by rw [hF3]; exact h)
            exact ⟨HD.out h1, HTk.out (HST.out (by rw [HE.out]; exact h1))⟩
          have HF3 := Lib.hid hF3
          clear hs HL HD hF3 HE
          go_upto_region 34 with (first
            | (go_at_call 55; refine (c_try H1.out tSemi (askS (by decide) (by decide)) rfl HSC.out).mono ?_; clear H1; rintro e w3 ⟨rfl, H1, ho1⟩; replace HG := Lib.hid (HG.out.out ho1 (fun q => hpr q.symm) hpR); replace HK := Lib.hid (HK.out.out ho1 (fun b _ hb e => by have := hb.1; have e2 : b = c.R := e; unfold New at this; omega)); clear ho1; replace H1 := Lib.hid H1)
            | (go_at_call 53; refine (c_sign H1.out tRcur (askS (by decide) (by decide)) rfl HF3.out).mono ?_; clear H1; rintro e w5 ⟨rfl, H1, ho1⟩; replace HG := Lib.hid (HG.out.out ho1 (fun q => hpr q.symm) hpR); replace HK := Lib.hid (HK.out.out ho1 (fun b _ hb e => by have := hb.1; have e2 : b = c.R := e; unfold New at this; omega)); clear ho1; replace H1 := Lib.hid H1))
          have hbq := (show Box _ _ _ [.int .i64 10, .int .i64 (tp : Int), .string ⟨#[]⟩, .int .i64 0, .slice (some ⟨kb, 0, none⟩) 1 1, .slice va dl.length vc] from HG.out.box)
          obtain ⟨_, _, _, _, _, _⟩ := six_cells hbq
          have hbl := hbq.lt
          have hres := Lib.hid (H1.out.res hR0)
          clear hbq
          go_wp2_with (refine wpList_store_box rfl 43 _ _ rfl W.heap.size [.int .i64 10, .int .i64 (tp : Int), .string ⟨#[]⟩, .int .i64 0, .slice (some ⟨kb, 0, none⟩) 1 1, .slice va dl.length vc] rfl rfl 43 _ hres.out Try.exprSize rfl (by simp [Value.oneCell']) ?_; intro w7 BT7 ht7)
          obtain ⟨_, _, _, _, _, _⟩ := six_cells BT7
          refine bodyPost_ret (v := .agg #[.int .i64 10, .int .i64 (tp : Int), .string ⟨#[]⟩, .int .i64 0, .slice (some ⟨kb, 0, none⟩) 1 1, .slice va dl.length vc]) (by simp only [results, Try.results57]; go_simp <;> rfl) rfl ?_
          refine tellsY H0.out H1.out (Nb.of_two ht7) (by rw [HRR.out]) (.mk 10 tp [] 0 [xk] dl) (fun h => by rw [HRR.out] at h ⊢; rw [(HT9.out h).1, (HT9.out h).2]) ?_
          have hdn := HG.out.done (W0 := W.alloc (.cells #[.int .i64 0, .int .i64 0, .string ⟨#[]⟩, .int .i64 0, .slice none 0 0, .slice none 0 0] 43)) (by have := HG.out.lt; omega) (flatC_len alC_len dl)
          exact IsV.of_ex (s := []) (kids := [xk]) (by simpa [exsC] using HK.out.mono (fun b _ h => h.1)) (by rw [alsC_eq]; exact hdn)

end Go.Proofs.Ytgkeblpjmfdhkaa
