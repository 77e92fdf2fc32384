/- The document's parser: expr, functions. -/
import Derived.Test.YtgkeblpjmfdhkaaYxbM
namespace Go.Proofs.Ytgkeblpjmfdhkaa
open Go.RowKit Go.Maps
set_option linter.unusedVariables false
set_option linter.unusedSimpArgs false

theorem TokS.news {W0 w : World} {a : Option Addr} {cp : Nat} {l : List Tk} (h : TokS W0 w a cp l) : ∀ ad, a = some ad → ∀ j u, (tkCs l)[j]? = some u → w.cell? (ad.add j) = some u := by
  intro ad ha j u hu
  rcases h.cells.2 with h0 | ⟨b, off, h1, _, _, _, h2⟩
  · have : l = [] := List.eq_nil_of_length_eq_zero h0
    subst this; simp [tkCs] at hu
  · rw [ha] at h1; cases h1
    have := h2 j u hu
    rw [Addr.add_lit]; exact this
theorem y_lamsN (W0 w : World) (p : Int) (l : List Tk) {N : Nat} (hNN : l.length = N) (body : Ex) (a : Option Addr) (cap : Nat) (v : Value) (hW : W0.heap.size ≤ w.heap.size)
    (hl : l.length ≤ 1000000) (hN : TokS W0 w a cap l) (hv : IsV (New W0) w (exC body) v) :
    Calls Try.prog 56 #[.slice a N cap, .int .i64 p, v] w fun e w' => ∃ v', e = .returned v' ∧ IsV (New W0) w' (exC (lams p (l.map Tk.s) body)) v' ∧ Below w.heap.size w w' := by
  subst hNN; exact y_lams W0 w p l body a cap v hW hl hN hv
theorem tkCs_one : ∀ (l : List Tk), ∀ u ∈ tkCs l, u.oneCell' = true
  | [], u, h => by simp [tkCs] at h
  | t :: r, u, h => by
    rcases List.mem_append.1 (show u ∈ tkC t ++ tkCs r from h) with h | h
    · exact tkC_one t u h
    · exact tkCs_one r u h

set_option maxRecDepth 100000 in
set_option maxHeartbeats 8000000 in
theorem c_expr_lam {c : Px} {n : Nat} {X : PS → Ex × PS} (HONE : ∀ (W0 W : World) (τ : PS), Cay c W0 W τ → τ.ts.length < n → Calls Try.prog 57 #[.pointer (some ⟨c.R, 0, none⟩)] W (TellsY c W0 W exC (X τ))) (hdec : Dec X) (HM : Hid (∀ τ, (X τ).2.st = false → τ.st = false))
    {W0 W : World} {σ : PS} (h : Cay c W0 W σ) (hlen : σ.ts.length ≤ n) (hsee : σ.sees (sS tBack) = true) {R : Ex × PS} (hR : lamF c.En X σ = R) :
    Calls Try.prog 57 #[.pointer (some ⟨c.R, 0, none⟩)] W (TellsY c W0 W exC R) := by
  have hR0 := h.rd.lt
  have hlenc := h.rd.len
  have hcap := h.rd.cap
  have hshort := h.rd.short
  have hR1 : c.R < (W.alloc (.cells #[.int .i64 0, .int .i64 0, .string ⟨#[]⟩, .int .i64 0, .slice none 0 0, .slice none 0 0] 43)).heap.size := by simp; omega
  have hWs : (W.alloc (.cells #[.int .i64 0, .int .i64 0, .string ⟨#[]⟩, .int .i64 0, .slice none 0 0, .slice none 0 0] 43)).heap.size = W.heap.size + 1 := by simp
  obtain ⟨t, r, hts⟩ := ts_cons (sees_pos hsee (by decide))
  obtain ⟨i0, hi0, hz0, hz1, hz2⟩ := info_parts Try.tokInfo
  have hnext : σ.next = sS tBack := of_decide_eq_true hsee
  obtain ⟨A, hA⟩ : ∃ A, σ.take c.En (sS tBack) = A := ⟨_, rfl⟩
  have hA2 : A = (t, σ.tail) := by rw [← hA, tail_take hsee]; unfold PS.head; rw [hts]; rfl
  subst hA2
  obtain ⟨B, hB⟩ : ∃ B, σ.tail.take c.En sName = B := ⟨_, rfl⟩
  obtain ⟨M, hM⟩ : ∃ M, B.2.toks = M := ⟨_, rfl⟩
  obtain ⟨D, hD⟩ : ∃ D, M.2.take c.En (sS tArrow) = D := ⟨_, rfl⟩
  obtain ⟨E1, hE1⟩ : ∃ E1, X D.2 = E1 := ⟨_, rfl⟩
  have hNm : B.2.names = (M.1.map Tk.s, M.2) := by rw [toks_names, hM]
  have l1 : σ.tail.ts.length < σ.ts.length := by rw [tail_len, hts]; simp
  have l2 : B.2.ts.length ≤ σ.tail.ts.length := by rw [← hB]; exact take_len _ _ _
  have l3 : M.1.length + M.2.ts.length = B.2.ts.length := by rw [← hM]; exact toks_len _
  have l4 : D.2.ts.length ≤ M.2.ts.length := by rw [← hD]; exact take_len _ _ _
  have HR : Hid (R = (lams (t.p : Int) ((B.1 :: M.1).map Tk.s) E1.1, E1.2)) := by show _ = _; rw [← hR]; unfold lamF; rw [hA]; dsimp only; rw [hB, hNm]; dsimp only; rw [hD, hE1]; rfl
  have HY1 : Hid (∀ (W0 W : World), Cay c W0 W D.2 → Calls Try.prog 57 #[.pointer (some ⟨c.R, 0, none⟩)] W (TellsY c W0 W exC E1)) := fun W0 W hc => hE1 ▸ HONE W0 W D.2 hc (by omega)
  have HSK : Hid (σ.skip (sS tBack) = (true, σ.tail)) := by show _ = _; unfold PS.skip; rw [if_pos hsee]
  have HML : Hid (1 + M.1.length ≤ 65536) := by show _ ≤ _; omega
  have HB := Lib.hid hB
  have HMM := Lib.hid hM
  have HD := Lib.hid hD
  obtain ⟨tk, tp, tx, tn⟩ := t
  obtain ⟨TX, hTX⟩ : ∃ TX, strB tx = TX := ⟨_, rfl⟩
  have HTX := Lib.hid hTX
  have H0 := Lib.hid h
  have HTS := Lib.hid hts
  have HDC := Lib.hid hdec
  have H1 := Lib.hid (h.begin (.cells #[.int .i64 0, .int .i64 0, .string ⟨#[]⟩, .int .i64 0, .slice none 0 0, .slice none 0 0] 43))
  obtain ⟨i, b, off, h0', hi, hd, ha, hbR, hb, _, _, _, _, _, _⟩ := H1.out.rd.head HTS.out
  obtain ⟨_, _, _, _, _⟩ := five_cells hb
  have hge : decide ((c.ts.length : Int) ≤ (i : Int)) = false := decide_eq_false (by omega)
  have hge2 : decide (c.ts.length ≤ i) = false := decide_eq_false (by omega)
  clear h hR hdec hts hTX hb hd ha h0' HONE hA hB hM hD hE1 hNm hnext l1 l2 l3 l4 hsee hlen
  go_enter Try.func57, Try.ntmps57
  go_upto_region 1 with (fail)
  go_quiet (fail)
  go_upto_region 4 with (fail)
  replace H1 := Lib.hid (H1.out.drewN nq)
  obtain ⟨w1, hw1⟩ : ∃ w1, World.drewN (W.alloc (.cells #[.int .i64 0, .int .i64 0, .string ⟨#[]⟩, .int .i64 0, .slice none 0 0, .slice none 0 0] 43)) nq = w1 := ⟨_, rfl⟩
  have hsz1 : W.heap.size + 1 = w1.heap.size := by rw [← hw1]; exact hWs.symm
  rw [hw1] at H1 ⊢
  clear hw1 hge hge2 hbR hi
  obtain ⟨i, b, off, h0', hi, hd, ha, hbR, hb, q0, q1, q2, q3, _, _⟩ := H1.out.rd.head HTS.out
  obtain ⟨_, _, _, _, _⟩ := five_cells hb
  have T9 : ∀ W, Sem.run Try.prog (Instr.indexAt 81 (.slice (some ⟨b, off, none⟩) c.ts.length c.cp) (.int .i64 (i : Int))) W = .ok (.pointer (some ⟨b, off + i * 4, none⟩)) W := fun W => by go_simp
  have hR9 := H1.out.rd.lt
  have hb9 : b < w1.heap.size := by omega
  dsimp only at q0 q1 q2 q3
  have hTX := HTX.out
  rw [hTX] at q2
  clear hb hd ha h0' hTX
  go_region
  go_upto_region 5 with (fail)
  have HX : Hid (Box (w1.alloc (.cells #[.int .i64 (tk : Int), .int .i64 (tp : Int), .string TX, .int .i64 (tn : Int)] 103)).drew w1.heap.size 103 [.int .i64 (tk : Int), .int .i64 (tp : Int), .string TX, .int .i64 (tn : Int)]) := Box.new w1 103 [.int .i64 (tk : Int), .int .i64 (tp : Int), .string TX, .int .i64 (tn : Int)]
  replace H1 := Lib.hid (H1.out.alloc (.cells #[.int .i64 (tk : Int), .int .i64 (tp : Int), .string TX, .int .i64 (tn : Int)] 103)).drew
  obtain ⟨w5, hw5⟩ : ∃ w5, (w1.alloc (.cells #[.int .i64 (tk : Int), .int .i64 (tp : Int), .string TX, .int .i64 (tn : Int)] 103)).drew = w5 := ⟨_, rfl⟩
  obtain ⟨tb, htb⟩ : ∃ tb, w1.heap.size = tb := ⟨_, rfl⟩
  rw [hw5, htb] at HX
  rw [hw5] at H1 ⊢
  rw [htb] at hR9 hsz1
  try rw [htb]
  have hXn : ¬ (tb = c.R) := by omega
  have hXW : tb ≠ W.heap.size := by omega
  clear q0 q1 q2 q3 T9 hbR hi hb9 hw5 htb
  go_upto_region 7 with (first
    | (go_at_call 55; refine (c_try H1.out tBack (askS (by decide) (by decide)) rfl HSK.out).mono ?_; clear H1 HSK; rintro e w6 ⟨rfl, H1, ho1⟩; (try (replace HX := Lib.hid (ho1.box HX.out hXn))); clear ho1; replace H1 := Lib.hid H1)
    | (go_at_call 51; refine (c_eat H1.out sName askName (by decide) rfl rfl HB.out).mono ?_; clear H1 HB; rintro e wn ⟨rfl, H1, ho1⟩; (try (replace HX := Lib.hid (ho1.box HX.out hXn))); have hbn := HX.out.lt; (try (replace HX := Lib.hid (HX.out.alloc (.cells #[.int .i64 (B.1.k : Int), .int .i64 (B.1.p : Int), .string (strB B.1.s), .int .i64 (B.1.n : Int)] 103)))); have hln := H1.size; have hbn := HX.out.lt; have hRn := H1.rd.lt; have HOW := Lib.hid (World.ownsRow_lit (base := wn.heap.size) (e := 103) (size := 4) wn #[.int .i64 (B.1.k : Int), .int .i64 (B.1.p : Int), .string (strB B.1.s), .int .i64 (B.1.n : Int)] 1 (Nat.le_refl _) (by decide) rfl); clear ho1; replace H1 := Lib.hid (H1.alloc (.cells #[.int .i64 (B.1.k : Int), .int .i64 (B.1.p : Int), .string (strB B.1.s), .int .i64 (B.1.n : Int)] 103))))
  go_wp2_with (first
    | (go_at_call 52; refine (c_names H1.out HMM.out).mono ?_; clear H1 HMM; rintro e w8 ⟨a1, cp1, rfl, htk, H1, ho1⟩; (try (replace HX := Lib.hid (ho1.box HX.out hXn))); have HTK := Lib.hid htk; replace HOW := Lib.hid (own_out HOW.out ho1 hRn); have hw8 := (ownsRow_lo HOW.out _ rfl).2; clear ho1 htk; replace H1 := Lib.hid H1)
    | (at_builtin; refine wpList_append_any rfl _ _ 81 rfl wn.heap.size 103 i0 (.agg #[.int .i64 0, .int .i64 0, .string ⟨#[]⟩, .int .i64 0]) 4 40 Try.underlying81 hi0 hz0 hz1 hz2 rfl (by decide) (.slice (some ⟨wn.heap.size, 0, none⟩) 1 1) 1 [.int .i64 (B.1.k : Int), .int .i64 (B.1.p : Int), .string (strB B.1.s), .int .i64 (B.1.n : Int)] rfl HOW.out a1 M.1.length cp1 (tkCs M.1) rfl HTK.out.2 (tkCs_len _) HTK.out.news (tkCs_one _) ?d4 ?d5 ?d6 ?_))
  case d4 => have := HML.out; unfold maxLen; omega
  case d5 => have := HML.out; omega
  case d6 => omega
  intro v9 w9 hown9 hgrow
  replace H1 := Lib.hid (H1.out.grow hgrow (fun q hq => by cases hq; exact hln))
  replace HX := Lib.hid (HX.out.grown hgrow (fun q => by have e : tb = wn.heap.size := Option.some.inj q; omega))
  obtain ⟨a9, c9, hv9⟩ := own_shape hown9
  subst hv9
  have hln9 : (B.1 :: M.1).length = 1 + M.1.length := by simp; omega
  replace hown9 : w9.ownsRow wn.heap.size 103 4 (.slice a9 (1 + M.1.length) c9) (1 + M.1.length) (tkCs (B.1 :: M.1)) := hown9
  replace HTK : Hid (TokS (W.alloc (.cells #[.int .i64 0, .int .i64 0, .string ⟨#[]⟩, .int .i64 0, .slice none 0 0, .slice none 0 0] 43)) w9 a9 c9 (B.1 :: M.1)) := by
    rw [← hln9] at hown9
    exact ⟨InC.of_owns hown9 (vals_ins _ _ _) (fun b hb => by have := (ownsRow_lo hown9 b hb).1; unfold New; omega) (by rw [List.length_map, tkCs_len]), own_nil hown9⟩
  have HLN := Lib.hid hln9
  clear hown9 hgrow hln9 HOW hw8
  go_upto_region 9 with (go_at_call 53; refine (c_sign H1.out tArrow (askS (by decide) (by decide)) rfl HD.out).mono ?_; clear H1 HD; rintro e w10 ⟨rfl, H1, ho1⟩; (try (replace HX := Lib.hid (ho1.box HX.out hXn))); (try (replace HTK := Lib.hid (HTK.out.stay ho1 hR1))); have hnq := (four_cells HX.out).2.1; have hnl := HX.out.lt; clear ho1; replace H1 := Lib.hid H1)
  have HS0 := Lib.hid (four_cells (Box.drew HX.out)).2.1
  go_region_held3 (fun w' => w'.cell? ⟨tb, 1, none⟩ = some (.int .i64 (tp : Int)))
    (first
      | (with_reducible apply HS0.out)
      | (with_reducible apply HS1.out)
      | (with_reducible apply HS2.out)
      | (with_reducible apply HS3.out))
    (first
      | (go_at_call 57; (with_reducible refine (HY1.out _ _ (Cay.drew H1.out)).mono ?_); rintro e w4 ⟨v1, xb, rfl, hv1, hx1, H4, ho1⟩; obtain ⟨y0, y1, y2, y3, y4, y5, y6, y7, y8, y9, yhz, _⟩ := hv1.exs; subst yhz; have HTb := Lib.hid hx1; have HX4 := Lib.hid (ho1.box (Box.drew HX.out) hXn); have HTK4 : Hid (TokS (W.alloc (.cells #[.int .i64 0, .int .i64 0, .string ⟨#[]⟩, .int .i64 0, .slice none 0 0, .slice none 0 0] 43)) w4 a9 c9 (B.1 :: M.1)) := TokS.stay (w := World.drew w10) (HTK.out.under ⟨rfl, rfl, rfl, Nat.le_refl _, fun _ _ => rfl⟩) ho1 hR1; have HLK := Lib.hid (y_lamsN (W.alloc (.cells #[.int .i64 0, .int .i64 0, .string ⟨#[]⟩, .int .i64 0, .slice none 0 0, .slice none 0 0] 43)) w4 (tp : Int) (B.1 :: M.1) HLN.out xb a9 c9 _ H4.size (by have := HML.out; simp; omega) HTK4.out hv1); have HS1 := Lib.hid (four_cells HX4.out).2.1; have hn4 := HX4.out.lt; have H4 := Lib.hid H4; clear ho1 hv1 hx1)
      | (go_at_call 56; (with_reducible refine (HLK.out).mono ?_); rintro e w6 ⟨v6, rfl, hv6, hb6⟩; obtain ⟨u0, u1, u2, u3, u4, u5, u6, u7, u8, u9, uhz, _⟩ := hv6.exs; subst uhz; have HVu := Lib.hid hv6; have HX6 := Lib.hid (HX4.out.below hb6); have HS2 := Lib.hid (four_cells HX6.out).2.1; have HS3 := Lib.hid (four_cells (Box.set6o HX6.out hXW (.int .i64 u0) (.int .i64 u1) (.string (strB u3)) (.int .i64 u2) (.slice u4 u6 u8) (.slice u5 u7 u9))).2.1; have hn6 := HX6.out.lt; have H6 := H4.out.under hb6; have hb4 := H6.res hR0; obtain ⟨_, _, _, _, _, _⟩ := six_cells hb4; obtain ⟨_, _, _, _, _, _⟩ := six_frozen hb4; have hw06 : W.heap.size < w6.heap.size := hb4.lt; clear hb4; replace H6 := Lib.hid H6; clear hb6 hv6))
  all_goals (rename_i hh; clear hh HS0 HS1 HS2 HS3)
  all_goals (refine (by assumption : ∀ (a : Act) (w : World), Code.wp Try.prog Code.ret (_ : Exit → Act → World → Prop) a w → (_ : Act → World → Prop) a w) _ _ (wp_ret ?_))
  all_goals (show bodyPost Try.prog Try.f57 (TellsY c W0 W exC R) Exit.ret _ _)
  all_goals (refine bodyPost_ret (v := .agg #[.int .i64 u0, .int .i64 u1, .string (strB u3), .int .i64 u2, .slice u4 u6 u8, .slice u5 u7 u9]) (by simp only [results, Try.results57]; go_simp <;> rfl) rfl ?_)
  all_goals (refine tellsY H0.out H6.out (by repeat (first | with_reducible exact Nb.refl _ _ | with_reducible refine Nb.set ?_ _ _)) (by rw [HR.out]) (lams (tp : Int) ((B.1 :: M.1).map Tk.s) xb) (fun h => by rw [HR.out] at h ⊢; rw [HTb.out h]) ?_)
  all_goals exact HVu.out

end Go.Proofs.Ytgkeblpjmfdhkaa
