/- The document's parser: expr, application. -/
import Derived.Test.YtgkeblpjmfdhkaaYxbM
import Derived.Test.YtgkeblpjmfdhkaaZFM
namespace Go.Proofs.Ytgkeblpjmfdhkaa
open Go.RowKit Go.Maps
set_option linter.unusedVariables false
set_option linter.unusedSimpArgs false

theorem Cay.putB {c : Px} {W1 w w' : World} {σ : PS} {B : Nat} (h : Cay c W1 w σ) (hn : Nb B w w') (hB : W1.heap.size ≤ B) : Cay c W1 w' σ := by
  have h1 := h.lt
  exact ⟨h.rd.keep fun k hk => hn.block k (Nat.lt_of_le_of_lt hk h.rd.lt) (by omega), ⟨hn.os.trans h.out.os, hn.tape.trans h.out.tape, hn.output.trans h.out.output, Nat.le_trans h.out.size hn.size, fun k hk hne => (hn.block k (Nat.lt_of_lt_of_le hk h.out.size) (by omega)).trans (h.out.block k hk hne)⟩, h.lt⟩

set_option maxRecDepth 100000 in
set_option maxHeartbeats 8000000 in
theorem c_expr_app {c : Px} {n : Nat} {X : PS → Ex × PS} (HONE : ∀ (W0 W : World) (τ : PS), Cay c W0 W τ → τ.ts.length < n → Calls Try.prog 57 #[.pointer (some ⟨c.R, 0, none⟩)] W (TellsY c W0 W exC (X τ))) (hdec : Dec X) (HM : Hid (∀ τ, (X τ).2.st = false → τ.st = false))
    {W0 W : World} {σ : PS} (h : Cay c W0 W σ) (hlen : σ.ts.length ≤ n) (hsee : 0 < σ.ts.length ∧ beg σ.next ≠ 6 ∧ beg σ.next ≠ 7 ∧ beg σ.next ≠ 9 ∧ beg σ.next ≠ 10) {R : Ex × PS} (hR : appF c.En X σ = R) :
    Calls Try.prog 57 #[.pointer (some ⟨c.R, 0, none⟩)] W (TellsY c W0 W exC R) := by
  have hR0 := h.rd.lt
  have hlenc := h.rd.len
  have hcap := h.rd.cap
  have hshort := h.rd.short
  have hR1 : c.R < (W.alloc (.cells #[.int .i64 0, .int .i64 0, .string ⟨#[]⟩, .int .i64 0, .slice none 0 0, .slice none 0 0] 43)).heap.size := by simp; omega
  have hWs : (W.alloc (.cells #[.int .i64 0, .int .i64 0, .string ⟨#[]⟩, .int .i64 0, .slice none 0 0, .slice none 0 0] 43)).heap.size = W.heap.size + 1 := by simp
  obtain ⟨t, r, hts⟩ := ts_cons (hsee.1)
  obtain ⟨A, hA⟩ : ∃ A, atomF c.En X σ = A := ⟨_, rfl⟩
  have hAl : A.2.ts.length ≤ n := by rw [← hA]; exact Nat.le_trans (atomF_len hdec _) hlen
  have HQ0 : Hid (appL c.En X A.2.ts.length A.1 A.2 = R) := by show _ = _; rw [← hR, ← hA]; rfl
  have HONE2 := Lib.hid HONE
  have HA : Hid (∀ (W0 W : World), Cay c W0 W σ → Calls Try.prog 105 #[.pointer (some ⟨c.R, 0, none⟩)] W (TellsY c W0 W exC A)) := fun W0 W hc => c_atom HONE hdec hc hlen hA
  have hno : ∀ s k, beg s = k → beg σ.next ≠ k → σ.sees s = false := fun s k h1 h2 => decide_eq_false (fun e => h2 (e ▸ h1))
  have HSK : Hid (σ.skip (sS tBack) = (false, σ)) := by show _ = _; unfold PS.skip; rw [if_neg (by rw [hno _ 6 (by decide) hsee.2.1]; decide)]
  have HS1 : Hid (σ.sees (sW tLet) = false) := hno _ 7 (by decide) hsee.2.2.1
  have HS2 : Hid (σ.sees (sW tIf) = false) := hno _ 9 (by decide) hsee.2.2.2.1
  have HS3 : Hid (σ.sees (sW tCase) = false) := hno _ 10 (by decide) hsee.2.2.2.2
  obtain ⟨tk, tp, tx, tn⟩ := t
  obtain ⟨TX, hTX⟩ : ∃ TX, strB tx = TX := ⟨_, rfl⟩
  have HTX := Lib.hid hTX
  have H0 := Lib.hid h
  have HTS := Lib.hid hts
  have HDC := Lib.hid hdec
  have H1 := Lib.hid (h.begin (.cells #[.int .i64 0, .int .i64 0, .string ⟨#[]⟩, .int .i64 0, .slice none 0 0, .slice none 0 0] 43))
  obtain ⟨i, b, off, h0', hi, hd, ha, hbR, hb, _, _, _, _, _, _⟩ := H1.out.rd.head HTS.out
  obtain ⟨_, _, _, _, _⟩ := five_cells hb
  have hge : decide ((c.ts.length : Int) ≤ (i : Int)) = false := decide_eq_false (by omega)
  have hge2 : decide (c.ts.length ≤ i) = false := decide_eq_false (by omega)
  clear h hR hdec hts hTX hb hd ha h0' HONE hA hsee hno
  go_enter Try.func57, Try.ntmps57
  go_upto_region 1 with (fail)
  go_quiet (fail)
  go_upto_region 4 with (fail)
  replace H1 := Lib.hid (H1.out.drewN nq)
  obtain ⟨w1, hw1⟩ : ∃ w1, World.drewN (W.alloc (.cells #[.int .i64 0, .int .i64 0, .string ⟨#[]⟩, .int .i64 0, .slice none 0 0, .slice none 0 0] 43)) nq = w1 := ⟨_, rfl⟩
  have hsz1 : W.heap.size + 1 = w1.heap.size := by rw [← hw1]; exact hWs.symm
  rw [hw1] at H1 ⊢
  clear hw1 hge hge2 hbR hi
  obtain ⟨i, b, off, h0', hi, hd, ha, hbR, hb, q0, q1, q2, q3, _, _⟩ := H1.out.rd.head HTS.out
  obtain ⟨_, _, _, _, _⟩ := five_cells hb
  have T9 : ∀ W, Sem.run Try.prog (Instr.indexAt 81 (.slice (some ⟨b, off, none⟩) c.ts.length c.cp) (.int .i64 (i : Int))) W = .ok (.pointer (some ⟨b, off + i * 4, none⟩)) W := fun W => by go_simp
  have hR9 := H1.out.rd.lt
  have hb9 : b < w1.heap.size := by omega
  dsimp only at q0 q1 q2 q3
  have hTX := HTX.out
  rw [hTX] at q2
  clear hb hd ha h0' hTX
  go_region
  go_upto_region 5 with (fail)
  have HX : Hid (Box (w1.alloc (.cells #[.int .i64 (tk : Int), .int .i64 (tp : Int), .string TX, .int .i64 (tn : Int)] 103)).drew w1.heap.size 103 [.int .i64 (tk : Int), .int .i64 (tp : Int), .string TX, .int .i64 (tn : Int)]) := Box.new w1 103 [.int .i64 (tk : Int), .int .i64 (tp : Int), .string TX, .int .i64 (tn : Int)]
  replace H1 := Lib.hid (H1.out.alloc (.cells #[.int .i64 (tk : Int), .int .i64 (tp : Int), .string TX, .int .i64 (tn : Int)] 103)).drew
  obtain ⟨w5, hw5⟩ : ∃ w5, (w1.alloc (.cells #[.int .i64 (tk : Int), .int .i64 (tp : Int), .string TX, .int .i64 (tn : Int)] 103)).drew = w5 := ⟨_, rfl⟩
  obtain ⟨tb, htb⟩ : ∃ tb, w1.heap.size = tb := ⟨_, rfl⟩
  rw [hw5, htb] at HX
  rw [hw5] at H1 ⊢
  rw [htb] at hR9 hsz1
  try rw [htb]
  have hXn : ¬ (tb = c.R) := by omega
  have hXW : tb ≠ W.heap.size := by omega
  clear q0 q1 q2 q3 T9 hbR hi hb9 hw5 htb
  go_wp2_with (first
    | (go_at_call 55; refine (c_try H1.out tBack (askS (by decide) (by decide)) rfl HSK.out).mono ?_; clear H1 HSK; rintro e w6 ⟨rfl, H1, ho1⟩; clear ho1; replace H1 := Lib.hid H1)
    | (go_at_call 50; refine (c_peek H1.out (sW tLet) (askW (by decide) (by decide)) rfl rfl HS1.out).mono ?_; clear H1 HS1; rintro e w7 ⟨rfl, H1, ho1⟩; clear ho1; replace H1 := Lib.hid H1)
    | (go_at_call 50; refine (c_peek H1.out (sW tIf) (askW (by decide) (by decide)) rfl rfl HS2.out).mono ?_; clear H1 HS2; rintro e w8 ⟨rfl, H1, ho1⟩; clear ho1; replace H1 := Lib.hid H1)
    | (go_at_call 50; refine (c_peek H1.out (sW tCase) (askW (by decide) (by decide)) rfl rfl HS3.out).mono ?_; clear H1 HS3; rintro e w9 ⟨rfl, H1, ho1⟩; clear ho1; replace H1 := Lib.hid H1)
    | (go_at_call 105; refine (HA.out _ _ H1.out).mono ?_; clear H1 HA; rintro e wa ⟨v1, xa, rfl, hv1, hx1, H1, ho1⟩; obtain ⟨x0, x1, x2, x3, x4, x5, x6, x7, x8, x9, xhz, _⟩ := hv1.exs; subst xhz; have HTa := Lib.hid hx1; have hB3l := H1.size; have HAV : Hid (AV (W.alloc (.cells #[.int .i64 0, .int .i64 0, .string ⟨#[]⟩, .int .i64 0, .slice none 0 0, .slice none 0 0] 43)) wa.heap.size (wa.alloc (.cells #[.int .i64 x0, .int .i64 x1, .string (strB x3), .int .i64 x2, .slice x4 x6 x8, .slice x5 x7 x9] 43)) xa [.int .i64 x0, .int .i64 x1, .string (strB x3), .int .i64 x2, .slice x4 x6 x8, .slice x5 x7 x9]) := ⟨Box.new wa 43 _, (hv1.mono fun b hb h => ⟨h, by omega⟩).under ((Below.refl _ wa).alloc (Nat.le_refl _) _)⟩; have hwa := HAV.out.1.lt; clear ho1 hv1 hx1; replace H1 := Lib.hid (H1.alloc (.cells #[.int .i64 x0, .int .i64 x1, .string (strB x3), .int .i64 x2, .slice x4 x6 x8, .slice x5 x7 x9] 43))))
  have HS1 := Lib.hid (H0.out.begin (.cells #[.int .i64 0, .int .i64 0, .string ⟨#[]⟩, .int .i64 0, .slice none 0 0, .slice none 0 0] 43))
  obtain ⟨W1, hW1⟩ : ∃ W1, W.alloc (.cells #[.int .i64 0, .int .i64 0, .string ⟨#[]⟩, .int .i64 0, .slice none 0 0, .slice none 0 0] 43) = W1 := ⟨_, rfl⟩
  rw [hW1] at H1 HAV HS1 hR1 hWs hB3l
  have HW1 := Lib.hid hW1
  clear hW1 HX
  obtain ⟨B3, hB3⟩ : ∃ B3, wa.heap.size = B3 := ⟨_, rfl⟩
  rw [hB3] at HAV hwa hB3l ⊢
  clear hB3
  go_loopg [] (A.2.ts.length) (fun gn wr => ∃ (l e : Ex) (τ : PS) (us : List Value) (f : Nat), Hid (Cay c W1 wr τ) ∧ Hid (AV W1 B3 wr e us) ∧ Hid (appL c.En X f l τ = R) ∧ Hid (τ.st = false → e = l) ∧ gn = τ.ts.length ∧ τ.ts.length ≤ f ∧ τ.ts.length ≤ n)
  case atStart => exact ⟨A.1, xa, A.2, _, A.2.ts.length, H1, HAV, HQ0, HTa, rfl, Nat.le_refl _, hAl⟩
  case round =>
    obtain ⟨l, e, τ, us, f, HC, HV, HL, HD, rfl, hf, hn⟩ := hrel
    clear HAV H1 HQ0 HTa
    have hBR : B3 ≠ c.R := by omega
    cases hs : τ.seesAtom with
    | false =>
      have HE : Hid (R = (l, τ)) := by show _ = _; rw [← HL.out]; exact appL_end hs
      have HS := Lib.hid hs
      clear hs HL
      go_wp2_with (go_at_call 106; refine (c_atomic HC.out HS.out).mono ?_; clear HC; rintro e1 w2 ⟨rfl, HC, ho1⟩; replace HV := Lib.hid (HV.out.out ho1 hR1 hB3l); obtain ⟨x0, x1, x2, x3, x4, x5, x6, x7, x8, x9, hx9, hx10⟩ := HV.out.shape; subst hx9; obtain ⟨_, _, _, _, _, _⟩ := six_cells HV.out.1; have hw2 := HV.out.1.lt; have hb4 := HC.box (HW1.out ▸ Box.new W 43 [.int .i64 0, .int .i64 0, .string ⟨#[]⟩, .int .i64 0, .slice none 0 0, .slice none 0 0]) (show ¬ (_ = c.R) by omega); obtain ⟨_, _, _, _, _, _⟩ := six_cells hb4; obtain ⟨_, _, _, _, _, _⟩ := six_frozen hb4; clear hb4 ho1; replace HC := Lib.hid HC)
      refine bodyPost_ret (v := .agg #[.int .i64 x0, .int .i64 x1, .string (strB x3), .int .i64 x2, .slice x4 x6 x8, .slice x5 x7 x9]) (by simp only [results, Try.results57]; go_simp <;> rfl) rfl ?_
      refine tellsY (o := (.cells #[.int .i64 0, .int .i64 0, .string ⟨#[]⟩, .int .i64 0, .slice none 0 0, .slice none 0 0] 43)) H0.out (HW1.out ▸ HC.out) (by repeat (first | with_reducible exact Nb.refl _ _ | with_reducible refine Nb.set ?_ _ _)) (by rw [HE.out]) e (fun h => by rw [HE.out] at h ⊢; exact HD.out h) ?_
      exact HW1.out ▸ (HV.out.2.mono fun b _ h => h.1)
    | true =>
      obtain ⟨f', hf1, hf2, hf3⟩ := appL_go (En := c.En) (e := l) hf hs HDC.out
      have HL2 : Hid (appL c.En X f' (.mk 5 l.at [] 0 [l, (atomF c.En X τ).1] []) (atomF c.En X τ).2 = R) := by show _ = _; rw [← hf1]; exact HL.out
      have HXa : Hid (∀ (W0 W : World), Cay c W0 W τ → Calls Try.prog 105 #[.pointer (some ⟨c.R, 0, none⟩)] W (TellsY c W0 W exC (atomF c.En X τ))) := fun W0 W hc => c_atom HONE2.out HDC.out hc hn rfl
      have hon : (atomF c.En X τ).2.ts.length ≤ n := by omega
      have HDT : Hid (e = l) := by
        refine HD.out ?_
        obtain ⟨i1, _, _, _, hemp⟩ := HC.out.rd.box
        cases q : τ.st with
        | false => rfl
        | true => have := hemp q; rw [this] at hf3; simp at hf3
      have HS := Lib.hid hs
      clear hs HL hf1 HD
      go_upto_region 38 with (first
        | (go_at_call 106; refine (c_atomic HC.out HS.out).mono ?_; clear HC; rintro e1 w2 ⟨rfl, HC, ho1⟩; replace HV := Lib.hid (HV.out.out ho1 hR1 hB3l); clear ho1; replace HC := Lib.hid HC)
        | (go_at_call 105; refine (HXa.out w2 _ ⟨HC.out.rd, Out.refl _ _, HC.out.rd.lt⟩).mono ?_; rintro e1 w4 ⟨v1, xb, rfl, hv1, hx1, H4, ho1⟩; obtain ⟨y0, y1, y2, y3, y4, y5, y6, y7, y8, y9, hy9, _⟩ := hv1.exs; subst hy9; have HTb := Lib.hid hx1; have h2s := HC.out.size; have HV4 : Hid (AV W1 B3 w4 e us) := HV.out.out ho1 hR1 hB3l; have HW := Lib.hid hv1; have H5 := Lib.hid (HC.out.next H4.rd ho1); clear ho1 hv1 H4 hx1))
      have hbw2 := HV.out.1.lt
      obtain ⟨x0, x1, x2, x3, x4, x5, x6, x7, x8, x9, hx9, hx10⟩ := HV4.out.shape
      subst hx9
      have HX10 := Lib.hid hx10
      clear hx10
      obtain ⟨w5, hw5⟩ : ∃ w5, w4.alloc (.cells #[.int .i64 y0, .int .i64 y1, .string (strB y3), .int .i64 y2, .slice y4 y6 y8, .slice y5 y7 y9] 43) = w5 := ⟨_, rfl⟩
      have HBy := Box.new w4 43 [.int .i64 y0, .int .i64 y1, .string (strB y3), .int .i64 y2, .slice y4 y6 y8, .slice y5 y7 y9]
      have HV5 : Hid (AV W1 B3 w5 e [.int .i64 x0, .int .i64 x1, .string (strB x3), .int .i64 x2, .slice x4 x6 x8, .slice x5 x7 x9]) := by subst hw5; exact ⟨HV4.out.1.alloc _, HV4.out.2.under ((Below.refl _ w4).alloc (Nat.le_refl _) _)⟩
      have HW5 : Hid (IsV (New w2) w5 (exC xb) (.agg #[.int .i64 y0, .int .i64 y1, .string (strB y3), .int .i64 y2, .slice y4 y6 y8, .slice y5 y7 y9])) := by subst hw5; exact HW.out.under ((Below.refl _ w4).alloc (Nat.le_refl _) _)
      have H6 : Hid (Cay c W1 w5 (atomF c.En X τ).2) := by subst hw5; exact H5.out.alloc _
      have hB34 := HV4.out.1.lt
      rw [hw5] at HBy ⊢
      clear hw5 H5 HW HV4
      obtain ⟨_, _, _, _, _, _⟩ := six_cells HBy
      have hwy := HBy.lt
      clear HBy
      obtain ⟨_, _, _, _, _, _⟩ := six_cells HV5.out.1
      obtain ⟨_, _, _, _, _, _⟩ := six_frozen HV5.out.1
      have hw5 := HV5.out.1.lt
      go_wp2_with fail
      obtain ⟨w9, hw9⟩ : ∃ w9, (((((((w5.setCell ⟨B3, 0, none⟩ (.int .i64 5)).setCell ⟨B3, 1, none⟩ (.int .i64 x1)).setCell ⟨B3, 2, none⟩ (.string ⟨#[]⟩)).setCell ⟨B3, 3, none⟩ (.int .i64 0)).setCell ⟨B3, 4, none⟩ (.slice (some ⟨w5.heap.size, 0, none⟩) 2 2)).setCell ⟨B3, 5, none⟩ (.slice none 0 0)).alloc (.cells #[.int .i64 x0, .int .i64 x1, .string (strB x3), .int .i64 x2, .slice x4 x6 x8, .slice x5 x7 x9, .int .i64 y0, .int .i64 y1, .string (strB y3), .int .i64 y2, .slice y4 y6 y8, .slice y5 y7 y9] 43)) = w9 := ⟨_, rfl⟩
      rw [hw9]
      have hN9 : Nb B3 (w5.alloc (.cells #[.int .i64 x0, .int .i64 x1, .string (strB x3), .int .i64 x2, .slice x4 x6 x8, .slice x5 x7 x9, .int .i64 y0, .int .i64 y1, .string (strB y3), .int .i64 y2, .slice y4 y6 y8, .slice y5 y7 y9] 43)) w9 := by subst hw9; exact Nb.both (by repeat (first | with_reducible exact Nb.refl _ _ | with_reducible refine Nb.set ?_ _ _)) (by simp) _
      have hB9 : Box w9 B3 43 [.int .i64 5, .int .i64 x1, .string ⟨#[]⟩, .int .i64 0, .slice (some ⟨w5.heap.size, 0, none⟩) 2 2, .slice none 0 0] := by subst hw9; exact (box_six HV5.out.1 rfl).alloc _
      clear hw9
      have hk := InC.two (S := fun b => New W1 b ∧ b ≠ B3) (k := 6) (t := 43) (us := [.int .i64 x0, .int .i64 x1, .string (strB x3), .int .i64 x2, .slice x4 x6 x8, .slice x5 x7 x9]) (vs := [.int .i64 y0, .int .i64 y1, .string (strB y3), .int .i64 y2, .slice y4 y6 y8, .slice y5 y7 y9]) HV5.out.2 (HW5.out.mono fun b _ hb => by unfold New at *; exact ⟨by omega, by omega⟩) (by have := H6.out.size; exact ⟨this, by omega⟩) (exC_len e) (exC_len _) rfl
      have HAV9 : Hid (AV W1 B3 w9 (.mk 5 e.at [] 0 [e, xb] []) [.int .i64 5, .int .i64 x1, .string ⟨#[]⟩, .int .i64 0, .slice (some ⟨w5.heap.size, 0, none⟩) 2 2, .slice none 0 0]) := ⟨hB9, by
        rw [HX10.out]
        exact IsV.of_ex (s := []) (kids := [e, xb]) (alts := []) (by simpa [exsC] using hk.agree (fun b h1 h2 => ⟨h1, hN9.block b h2 h1.2⟩) hN9.size) (.e _ _ _)⟩
      have HC9 : Hid (Cay c W1 w9 (atomF c.En X τ).2) := (H6.out.alloc _).putB hN9 hB3l
      clear hk hB9 hN9 HW5 HV5 H6
      go_roundg (atomF c.En X τ).2.ts.length
      case measure => exact hf3
      case rel => exact ⟨_, _, (atomF c.En X τ).2, _, f', HC9, HAV9, HL2, fun h => by rw [HDT.out, HTb.out h], rfl, hf2, hon⟩

end Go.Proofs.Ytgkeblpjmfdhkaa
