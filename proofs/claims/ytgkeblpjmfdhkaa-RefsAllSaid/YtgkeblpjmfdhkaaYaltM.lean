/- The document's parser: alt. -/
import Derived.Test.YtgkeblpjmfdhkaaYxbM
import Derived.Test.YtgkeblpjmfdhkaaZFM
import Derived.Test.YtgkeblpjmfdhkaaZCM
import Derived.Deep.RegionLaw
import Derived.Test.YtgkeblpjmfdhkaaZGM
namespace Go.Proofs.Ytgkeblpjmfdhkaa
open Go.RowKit Go.Maps
set_option linter.unusedVariables false
set_option linter.unusedSimpArgs false

theorem Try.altSize : (Try.prog.info? 161).map (·.size) = some 9 := by kernel_rfl
theorem Nb.grown {B : Nat} {w w' w'' : World} (h : Nb B w w') {row : Option Nat} (hg : w'.grownBy w'' row) (hr : ∀ q, row = some q → w.heap.size ≤ q) : Nb B w w'' := by
  have ho : Out (fun b => b = B) w w' := ⟨h.os, h.tape, h.output, h.size, fun k hk hn => h.block k hk hn⟩
  have := ho.grown hg fun q hq => .inr (hr q hq)
  exact ⟨this.os, this.tape, this.output, this.size, fun k hk hn => this.block k hk hn⟩
theorem Cay.putN {c : Px} {W1 w w' : World} {σ : PS} {B : Nat} (h : Cay c W1 w σ) (hn : Nb B w w') (hB : W1.heap.size ≤ B) : Cay c W1 w' σ := by
  have h1 := h.lt
  exact ⟨h.rd.keep fun k hk => hn.block k (Nat.lt_of_le_of_lt hk h.rd.lt) (by omega), ⟨hn.os.trans h.out.os, hn.tape.trans h.out.tape, hn.output.trans h.out.output, Nat.le_trans h.out.size hn.size, fun k hk hne => (hn.block k (Nat.lt_of_lt_of_le hk h.out.size) (by omega)).trans (h.out.block k hk hne)⟩, h.lt⟩
/-- Texts of tokens, cell by cell, beside a block. -/
def TokC (w : World) (a : Option Addr) (pb : Nat) (l : List Tk) : Prop := l.length = 0 ∨ ∃ b off, a = some ⟨b, off, none⟩ ∧ b < w.heap.size ∧ b ≠ pb ∧ ∀ (i : Nat) (t : Tk), l[i]? = some t → w.cell? ⟨b, off + i * 4 + 2, none⟩ = some (.string (strB t.s))
theorem tok_land {W0 w w' : World} {a : Option Addr} {cp pb : Nat} {l : List Tk} (h : TokS W0 w a cp l) (hb : ∀ b, New W0 b → b < w.heap.size → b ≠ pb ∧ w'.heap[b]? = w.heap[b]?) (hz : w.heap.size ≤ w'.heap.size) : TokC w' a pb l := by
  rcases h.cells.2 with h0 | ⟨b, off, h1, h2, h3, h4, _⟩
  · exact .inl h0
  · exact .inr ⟨b, off, h1, by omega, (hb b h2 h3).1, fun i t ht => (World.cell?_of_block (hb b h2 h3).2).trans (h4 i t ht)⟩
theorem box_nine {w : World} {b : Nat} {t : TypeId} {us : List Value} {v0 v1 v2 v3 v4 v5 v6 v7 v8 : Value} (h : Box w b t us) (hl : us.length = 9) : Box (((((((((w.setCell ⟨b, 0, none⟩ (v0)).setCell ⟨b, 1, none⟩ (v1)).setCell ⟨b, 2, none⟩ (v2)).setCell ⟨b, 3, none⟩ (v3)).setCell ⟨b, 4, none⟩ (v4)).setCell ⟨b, 5, none⟩ (v5)).setCell ⟨b, 6, none⟩ (v6)).setCell ⟨b, 7, none⟩ (v7)).setCell ⟨b, 8, none⟩ (v8)) b t [v0, v1, v2, v3, v4, v5, v6, v7, v8] := by
  have := ((((((((h.set 0 v0).set 1 v1).set 2 v2).set 3 v3).set 4 v4).set 5 v5).set 6 v6).set 7 v7).set 8 v8
  match us, hl with
  | [a0, a1, a2, a3, a4, a5, a6, a7, a8], _ => simpa using this
theorem nb_nine {w : World} {b : Nat} (v0 v1 v2 v3 v4 v5 v6 v7 v8 : Value) : Nb b w (((((((((w.setCell ⟨b, 0, none⟩ (v0)).setCell ⟨b, 1, none⟩ (v1)).setCell ⟨b, 2, none⟩ (v2)).setCell ⟨b, 3, none⟩ (v3)).setCell ⟨b, 4, none⟩ (v4)).setCell ⟨b, 5, none⟩ (v5)).setCell ⟨b, 6, none⟩ (v6)).setCell ⟨b, 7, none⟩ (v7)).setCell ⟨b, 8, none⟩ (v8)) :=
  (((((((((Nb.refl b w).set 0 _).set 1 _).set 2 _).set 3 _).set 4 _).set 5 _).set 6 _).set 7 _).set 8 _

set_option maxRecDepth 100000 in
set_option maxHeartbeats 8000000 in
theorem c_alt {c : Px} {n : Nat} {X : PS → Ex × PS} (HONE : ∀ (W0 W : World) (τ : PS), Cay c W0 W τ → τ.ts.length < n → Calls Try.prog 57 #[.pointer (some ⟨c.R, 0, none⟩)] W (TellsY c W0 W exC (X τ))) (hdec : Dec X)
    {W0 W : World} {σ : PS} (h : Cay c W0 W σ) (hlen : σ.ts.length < n) {R : Al × PS} (hR : altF c.En X σ = R) :
    Calls Try.prog 104 #[.pointer (some ⟨c.R, 0, none⟩)] W (TellsY c W0 W alC R) := by
  obtain ⟨i0, hi0, hz0, hz1, hz2⟩ := info_parts Try.zstrInfo
  have hR0 := h.rd.lt
  have hlenc := h.rd.len
  have hshort := h.rd.short
  have hR1 : c.R < (W.alloc (.cells #[.int .i64 0, .string ⟨#[]⟩, .slice none 0 0, .int .i64 0, .int .i64 0, .string ⟨#[]⟩, .int .i64 0, .slice none 0 0, .slice none 0 0] 161)).heap.size := by simp; omega
  have hWs : (W.alloc (.cells #[.int .i64 0, .string ⟨#[]⟩, .slice none 0 0, .int .i64 0, .int .i64 0, .string ⟨#[]⟩, .int .i64 0, .slice none 0 0, .slice none 0 0] 161)).heap.size = W.heap.size + 1 := by simp
  obtain ⟨A, hA⟩ : ∃ A, σ.take c.En sCon = A := ⟨_, rfl⟩
  obtain ⟨M, hM⟩ : ∃ M, A.2.toks = M := ⟨_, rfl⟩
  obtain ⟨D, hD⟩ : ∃ D, M.2.take c.En (sS tArrow) = D := ⟨_, rfl⟩
  obtain ⟨E1, hE1⟩ : ∃ E1, X D.2 = E1 := ⟨_, rfl⟩
  have hNm : A.2.names = (M.1.map Tk.s, M.2) := by rw [toks_names, hM]
  have l2 : A.2.ts.length ≤ σ.ts.length := by rw [← hA]; exact take_len _ _ _
  have l3 : M.1.length + M.2.ts.length = A.2.ts.length := by rw [← hM]; exact toks_len _
  have l4 : D.2.ts.length ≤ M.2.ts.length := by rw [← hD]; exact take_len _ _ _
  have HR : Hid (R = (.mk A.1.p A.1.s (M.1.map Tk.s) E1.1, E1.2)) := by show _ = _; rw [← hR]; unfold altF; rw [hA]; dsimp only; rw [hNm]; dsimp only; rw [hD, hE1]
  have HY1 : Hid (∀ (W0 W : World), Cay c W0 W D.2 → Calls Try.prog 57 #[.pointer (some ⟨c.R, 0, none⟩)] W (TellsY c W0 W exC E1)) := fun W0 W hc => hE1 ▸ HONE W0 W D.2 hc (by omega)
  have HML : M.1.length ≤ 65536 := by omega
  have HA := Lib.hid hA
  have HMM := Lib.hid hM
  have HD := Lib.hid hD
  have H0 := Lib.hid h
  have H1 := Lib.hid (h.begin (.cells #[.int .i64 0, .string ⟨#[]⟩, .slice none 0 0, .int .i64 0, .int .i64 0, .string ⟨#[]⟩, .int .i64 0, .slice none 0 0, .slice none 0 0] 161))
  clear h hR HONE hdec hA hM hD hE1 hNm l2 l3 l4 hlen
  obtain ⟨N, hN⟩ : ∃ N, M.1.length = N := ⟨_, rfl⟩
  have HN := Lib.hid hN
  rw [hN] at HML
  clear hN
  go_enter Try.func104, Try.ntmps104
  go_upto_region 4 with (first
    | (go_at_call 51; refine (c_eat H1.out sCon askCon (by decide) rfl rfl HA.out).mono ?_; clear H1 HA; rintro e wn ⟨rfl, H1, ho1⟩; have hln := H1.size; have hXn : ¬ (wn.heap.size = c.R) := (by have := H1.rd.lt; omega); have HX := Lib.hid (Box.new wn 103 [.int .i64 (A.1.k : Int), .int .i64 (A.1.p : Int), .string (strB A.1.s), .int .i64 (A.1.n : Int)]); clear ho1; replace H1 := Lib.hid (H1.alloc (.cells #[.int .i64 (A.1.k : Int), .int .i64 (A.1.p : Int), .string (strB A.1.s), .int .i64 (A.1.n : Int)] 103)))
    | (go_at_call 52; refine (c_names H1.out HMM.out).mono ?_; clear H1 HMM; rw [HN.out]; rintro e w8 ⟨a1, cp1, rfl, htk, H1, ho1⟩; (try (replace HX := Lib.hid (ho1.box HX.out hXn))); have HTK := Lib.hid htk; clear ho1 htk; replace H1 := Lib.hid H1)
    | (go_at_call 53; refine (c_sign H1.out tArrow (askS (by decide) (by decide)) rfl HD.out).mono ?_; clear H1 HD; rintro e w9 ⟨rfl, H1, ho1⟩; (try (replace HX := Lib.hid (ho1.box HX.out hXn))); (try (replace HTK := Lib.hid (HTK.out.stay ho1 hR1))); have hnl := HX.out.lt; clear ho1; replace H1 := Lib.hid H1))
  have HS0 := Lib.hid (c12 (Box.drew HX.out))
  have HSa := Lib.hid (c12 (Box.drew (HX.out.alloc (.cells #[.int .i64 0, .string ⟨#[]⟩, .slice none 0 0, .int .i64 0, .int .i64 0, .string ⟨#[]⟩, .int .i64 0, .slice none 0 0, .slice none 0 0] 161))))
  have hnW : wn.heap.size ≠ W.heap.size := by omega
  go_region_held3 (fun w' => w'.cell? ⟨wn.heap.size, 1, none⟩ = some (.int .i64 (A.1.p : Int)) ∧ w'.cell? ⟨wn.heap.size, 2, none⟩ = some (.string (strB A.1.s)))
    (first
      | (with_reducible apply HS0.out)
      | (with_reducible apply HSa.out)
      | (with_reducible apply HS1.out)
      | (with_reducible apply HS2.out)
      | (with_reducible apply HS3.out)
      | (with_reducible apply HS4.out))
    (first
      | (go_at_call 57; (first | ((with_reducible refine (HY1.out (World.drew w9) _ (Cay.start (Cay.drew H1.out).rd)).mono ?_); rintro e w4 ⟨v1, xb, rfl, hv1, hx1, H4, ho1⟩; obtain ⟨y0, y1, y2, y3, y4, y5, y6, y7, y8, y9, yhz, _⟩ := hv1.exs; subst yhz; have hoq := Out.drew2 ho1; have hvq : IsV (New (W.alloc (.cells #[.int .i64 0, .string ⟨#[]⟩, .slice none 0 0, .int .i64 0, .int .i64 0, .string ⟨#[]⟩, .int .i64 0, .slice none 0 0, .slice none 0 0] 161))) w4 _ _ := newer (W := World.drew w9) H1.out.size hv1) | ((with_reducible refine (HY1.out (World.drew (w9.alloc (.cells #[.int .i64 0, .string ⟨#[]⟩, .slice none 0 0, .int .i64 0, .int .i64 0, .string ⟨#[]⟩, .int .i64 0, .slice none 0 0, .slice none 0 0] 161))) _ (Cay.start (Cay.drew (H1.out.alloc _)).rd)).mono ?_); rintro e w4 ⟨v1, xb, rfl, hv1, hx1, H4, ho1⟩; obtain ⟨y0, y1, y2, y3, y4, y5, y6, y7, y8, y9, yhz, _⟩ := hv1.exs; subst yhz; have hoq := out_alloc ho1; have HP4 := Lib.hid (ho1.box (Box.drew (Box.new w9 161 [.int .i64 0, .string ⟨#[]⟩, .slice none 0 0, .int .i64 0, .int .i64 0, .string ⟨#[]⟩, .int .i64 0, .slice none 0 0, .slice none 0 0])) (show ¬ (_ = c.R) by have := H1.out.rd.lt; show ¬ (w9.heap.size = c.R); omega)); obtain ⟨_, _, _, _, _, _, _, _, _⟩ := nine_cells HP4.out; obtain ⟨_, _, _, _, _, _, _, _, _⟩ := nine_frozen HP4.out; have hp4 := HP4.out.lt; have hvq : IsV (fun b => New (W.alloc (.cells #[.int .i64 0, .string ⟨#[]⟩, .slice none 0 0, .int .i64 0, .int .i64 0, .string ⟨#[]⟩, .int .i64 0, .slice none 0 0, .slice none 0 0] 161)) b ∧ b ≠ w9.heap.size) w4 _ _ := hv1.mono (fun b hb h => by have h1 := H1.out.size; unfold New at *; simp at *; omega))); have HTb := Lib.hid hx1; have HVq := Lib.hid hvq; have HX4 := Lib.hid (hoq.box HX.out hXn); have HS1 := Lib.hid (c12 HX4.out); have HS2 := Lib.hid (c12 (HX4.out.alloc (.cells #[.int .i64 0, .string ⟨#[]⟩, .slice none 0 0, .int .i64 0, .int .i64 0, .string ⟨#[]⟩, .int .i64 0, .slice none 0 0, .slice none 0 0] 161))); have HS3 := Lib.hid (c12 (HX4.out.alloc (.cells #[.int .i64 (A.1.p : Int), .string (strB A.1.s), .slice none 0 0, .int .i64 y0, .int .i64 y1, .string (strB y3), .int .i64 y2, .slice y4 y6 y8, .slice y5 y7 y9] 161))); have HS4 := Lib.hid (c12 (Box.set9o HX4.out (B := w9.heap.size) (by omega) (.int .i64 (A.1.p : Int)) (.string (strB A.1.s)) (.slice none 0 0) (.int .i64 y0) (.int .i64 y1) (.string (strB y3)) (.int .i64 y2) (.slice y4 y6 y8) (.slice y5 y7 y9))); have hn4 := HX4.out.lt; replace H4 := Lib.hid (H1.out.next H4.rd hoq); have HOQ := Lib.hid hoq; clear ho1 hoq hv1 hvq hx1)
      | fail)
  all_goals (rename_i hh; clear hh HS0 HS1 HS2 HS3 HS4 HSa)
  all_goals (first
    | (have q3 := H4.out.alloc (.cells #[.int .i64 (A.1.p : Int), .string (strB A.1.s), .slice none 0 0, .int .i64 y0, .int .i64 y1, .string (strB y3), .int .i64 y2, .slice y4 y6 y8, .slice y5 y7 y9] 161); have q4 := Box.new w4 161 [.int .i64 (A.1.p : Int), .string (strB A.1.s), .slice none 0 0, .int .i64 y0, .int .i64 y1, .string (strB y3), .int .i64 y2, .slice y4 y6 y8, .slice y5 y7 y9]; have q5 : IsV (fun b => New (W.alloc (.cells #[.int .i64 0, .string ⟨#[]⟩, .slice none 0 0, .int .i64 0, .int .i64 0, .string ⟨#[]⟩, .int .i64 0, .slice none 0 0, .slice none 0 0] 161)) b ∧ b ≠ w4.heap.size) (w4.alloc (.cells #[.int .i64 (A.1.p : Int), .string (strB A.1.s), .slice none 0 0, .int .i64 y0, .int .i64 y1, .string (strB y3), .int .i64 y2, .slice y4 y6 y8, .slice y5 y7 y9] 161)) (exC xb) (.agg #[.int .i64 y0, .int .i64 y1, .string (strB y3), .int .i64 y2, .slice y4 y6 y8, .slice y5 y7 y9]) := (HVq.out.mono (fun b hb h => ⟨h, by omega⟩)).under ((Below.refl _ w4).alloc (Nat.le_refl _) _); have q6 : TokC (w4.alloc (.cells #[.int .i64 (A.1.p : Int), .string (strB A.1.s), .slice none 0 0, .int .i64 y0, .int .i64 y1, .string (strB y3), .int .i64 y2, .slice y4 y6 y8, .slice y5 y7 y9] 161)) a1 w4.heap.size M.1 := tok_land HTK.out (fun b h1 h2 => ⟨by have := HOQ.out.size; omega, (Below.heap_alloc w4 _ b (by have := HOQ.out.size; omega)).trans (HOQ.out.block b h2 (fun e => by have e' : b = c.R := e; unfold New at h1; omega))⟩) (by have := HOQ.out.size; simp; omega); obtain ⟨wv, hwv⟩ : ∃ wv, w4.alloc (.cells #[.int .i64 (A.1.p : Int), .string (strB A.1.s), .slice none 0 0, .int .i64 y0, .int .i64 y1, .string (strB y3), .int .i64 y2, .slice y4 y6 y8, .slice y5 y7 y9] 161) = wv := ⟨_, rfl⟩; rw [hwv] at q3 q4 q5 q6 ⊢; obtain ⟨pb, hpb⟩ : ∃ pb, w4.heap.size = pb := ⟨_, rfl⟩; have hpr : ¬ (pb = c.R) := (by have := H4.out.rd.lt; omega); have hpl : (W.alloc (.cells #[.int .i64 0, .string ⟨#[]⟩, .slice none 0 0, .int .i64 0, .int .i64 0, .string ⟨#[]⟩, .int .i64 0, .slice none 0 0, .slice none 0 0] 161)).heap.size ≤ pb := (by have := H4.out.size; omega); rw [hpb] at q4 q5 q6 ⊢)
    | (have q4 := box_nine (v0 := .int .i64 (A.1.p : Int)) (v1 := .string (strB A.1.s)) (v2 := .slice none 0 0) (v3 := .int .i64 y0) (v4 := .int .i64 y1) (v5 := .string (strB y3)) (v6 := .int .i64 y2) (v7 := .slice y4 y6 y8) (v8 := .slice y5 y7 y9) HP4.out rfl; have q3 := H4.out.putN (nb_nine (b := w9.heap.size) (.int .i64 (A.1.p : Int)) (.string (strB A.1.s)) (.slice none 0 0) (.int .i64 y0) (.int .i64 y1) (.string (strB y3)) (.int .i64 y2) (.slice y4 y6 y8) (.slice y5 y7 y9)) H1.out.size; have q5 : IsV (fun b => New (W.alloc (.cells #[.int .i64 0, .string ⟨#[]⟩, .slice none 0 0, .int .i64 0, .int .i64 0, .string ⟨#[]⟩, .int .i64 0, .slice none 0 0, .slice none 0 0] 161)) b ∧ b ≠ w9.heap.size) (((((((((w4.setCell ⟨w9.heap.size, 0, none⟩ (.int .i64 (A.1.p : Int))).setCell ⟨w9.heap.size, 1, none⟩ (.string (strB A.1.s))).setCell ⟨w9.heap.size, 2, none⟩ (.slice none 0 0)).setCell ⟨w9.heap.size, 3, none⟩ (.int .i64 y0)).setCell ⟨w9.heap.size, 4, none⟩ (.int .i64 y1)).setCell ⟨w9.heap.size, 5, none⟩ (.string (strB y3))).setCell ⟨w9.heap.size, 6, none⟩ (.int .i64 y2)).setCell ⟨w9.heap.size, 7, none⟩ (.slice y4 y6 y8)).setCell ⟨w9.heap.size, 8, none⟩ (.slice y5 y7 y9)) (exC xb) (.agg #[.int .i64 y0, .int .i64 y1, .string (strB y3), .int .i64 y2, .slice y4 y6 y8, .slice y5 y7 y9]) := HVq.out.agree (fun b h1 h2 => ⟨h1, (nb_nine (.int .i64 (A.1.p : Int)) (.string (strB A.1.s)) (.slice none 0 0) (.int .i64 y0) (.int .i64 y1) (.string (strB y3)) (.int .i64 y2) (.slice y4 y6 y8) (.slice y5 y7 y9)).block b h2 h1.2⟩) (nb_nine (.int .i64 (A.1.p : Int)) (.string (strB A.1.s)) (.slice none 0 0) (.int .i64 y0) (.int .i64 y1) (.string (strB y3)) (.int .i64 y2) (.slice y4 y6 y8) (.slice y5 y7 y9)).size; have q6 : TokC (((((((((w4.setCell ⟨w9.heap.size, 0, none⟩ (.int .i64 (A.1.p : Int))).setCell ⟨w9.heap.size, 1, none⟩ (.string (strB A.1.s))).setCell ⟨w9.heap.size, 2, none⟩ (.slice none 0 0)).setCell ⟨w9.heap.size, 3, none⟩ (.int .i64 y0)).setCell ⟨w9.heap.size, 4, none⟩ (.int .i64 y1)).setCell ⟨w9.heap.size, 5, none⟩ (.string (strB y3))).setCell ⟨w9.heap.size, 6, none⟩ (.int .i64 y2)).setCell ⟨w9.heap.size, 7, none⟩ (.slice y4 y6 y8)).setCell ⟨w9.heap.size, 8, none⟩ (.slice y5 y7 y9)) a1 w9.heap.size M.1 := tok_land HTK.out (fun b h1 h2 => ⟨by omega, ((nb_nine (.int .i64 (A.1.p : Int)) (.string (strB A.1.s)) (.slice none 0 0) (.int .i64 y0) (.int .i64 y1) (.string (strB y3)) (.int .i64 y2) (.slice y4 y6 y8) (.slice y5 y7 y9)).block b (by have := HOQ.out.size; omega) (by omega)).trans (HOQ.out.block b h2 (fun e => by have e' : b = c.R := e; unfold New at h1; omega))⟩) (Nat.le_trans HOQ.out.size (nb_nine (.int .i64 (A.1.p : Int)) (.string (strB A.1.s)) (.slice none 0 0) (.int .i64 y0) (.int .i64 y1) (.string (strB y3)) (.int .i64 y2) (.slice y4 y6 y8) (.slice y5 y7 y9)).size); obtain ⟨wv, hwv⟩ : ∃ wv, (((((((((w4.setCell ⟨w9.heap.size, 0, none⟩ (.int .i64 (A.1.p : Int))).setCell ⟨w9.heap.size, 1, none⟩ (.string (strB A.1.s))).setCell ⟨w9.heap.size, 2, none⟩ (.slice none 0 0)).setCell ⟨w9.heap.size, 3, none⟩ (.int .i64 y0)).setCell ⟨w9.heap.size, 4, none⟩ (.int .i64 y1)).setCell ⟨w9.heap.size, 5, none⟩ (.string (strB y3))).setCell ⟨w9.heap.size, 6, none⟩ (.int .i64 y2)).setCell ⟨w9.heap.size, 7, none⟩ (.slice y4 y6 y8)).setCell ⟨w9.heap.size, 8, none⟩ (.slice y5 y7 y9)) = wv := ⟨_, rfl⟩; rw [hwv] at q3 q4 q5 q6 ⊢; obtain ⟨pb, hpb⟩ : ∃ pb, w9.heap.size = pb := ⟨_, rfl⟩; have hpr : ¬ (pb = c.R) := (by have := H1.out.rd.lt; omega); have hpl : (W.alloc (.cells #[.int .i64 0, .string ⟨#[]⟩, .slice none 0 0, .int .i64 0, .int .i64 0, .string ⟨#[]⟩, .int .i64 0, .slice none 0 0, .slice none 0 0] 161)).heap.size ≤ pb := (by have := H1.out.size; omega); rw [hpb] at q4 q5 q6 ⊢))
  all_goals (have HC := Lib.hid q3; have HB := Lib.hid q4; have HV := Lib.hid q5; have HTC := Lib.hid q6)
  all_goals (clear q3 q4 q5 q6 hwv hpb HX4 H4 HTK HOQ HVq H1 HX)
  all_goals
    have hlv := HB.out.lt
    go_wp2_with fail
    go_loopg [6] N (fun gn i wr => ∃ (j : Nat) (v : Value), j ≤ N ∧ gn + j = N ∧ i = .int .i64 j ∧ Hid (Nb pb wv wr) ∧ Hid (Box wr pb 161 [.int .i64 (A.1.p : Int), .string (strB A.1.s), v, .int .i64 y0, .int .i64 y1, .string (strB y3), .int .i64 y2, .slice y4 y6 y8, .slice y5 y7 y9]) ∧ Hid (wr.ownsRow wv.heap.size 9 1 v j ((M.1.take j).map fun t => Value.string (strB t.s))))
    case atStart => exact ⟨0, .slice none 0 0, Nat.zero_le _, rfl, rfl, Nb.refl _ _, HB, World.ownsRow_nil _ _ _ _⟩
    case round =>
      obtain ⟨j, v, hj, hgj, rfl, HNB, HBX, HOW⟩ := hrel
      obtain ⟨va, vc, hv⟩ := own_shape HOW.out
      subst hv
      have HLO := Lib.hid (ownsRow_lo HOW.out)
      clear HB
      by_cases hlt : j < N
      · obtain ⟨bt, off, rfl, hbt, hbp, hcell⟩ := HTC.out.resolve_left (by have := HN.out; omega)
        have hjM : j < M.1.length := by have := HN.out; omega
        obtain ⟨t, ht⟩ : ∃ t, M.1[j]'hjM = t := ⟨_, rfl⟩
        have q2 : wr.cell? ⟨bt, off + j * 4 + 2, none⟩ = some (.string (strB t.s)) := (World.cell?_of_block (HNB.out.block bt hbt hbp)).trans (hcell j t (by rw [← ht]; exact List.getElem?_eq_getElem hjM))
        have HTJ : Hid ((M.1.take (j + 1)).map (fun t => Value.string (strB t.s)) = (M.1.take j).map (fun t => Value.string (strB t.s)) ++ [.string (strB t.s)]) := by show _ = _; rw [List.take_succ_eq_append_getElem hjM, List.map_append, ht]; rfl
        obtain ⟨SX, hSX⟩ : ∃ SX, strB t.s = SX := ⟨_, rfl⟩
        rw [hSX] at q2
        have HSX := Lib.hid hSX
        have hcpN : N ≤ cp1 ∨ True := .inr trivial
        have T9 : ∀ W, Sem.run Try.prog (Instr.indexAt 81 (.slice (some ⟨bt, off, none⟩) N cp1) (.int .i64 (j : Int))) W = .ok (.pointer (some ⟨bt, off + j * 4, none⟩)) W := fun W => by go_simp
        have hbw : bt < wr.heap.size := Nat.lt_of_lt_of_le hbt HNB.out.size
        obtain ⟨_, _, _, _, _, _, _, _, _⟩ := nine_cells HBX.out
        obtain ⟨_, _, _, _, _, _, _, _, _⟩ := nine_frozen HBX.out
        have hpw := HBX.out.lt
        have Q1 : Hid (j + 1 ≤ maxLen) := by unfold maxLen; show _ ≤ _; omega
        have Q2 : Hid ((j + 1) * 16 ≤ 140737488355328) := by show _ ≤ _; omega
        have HSZ := Lib.hid HNB.out.size
        clear hcell ht hSX hcpN
        go_wp2_with fail
        go_region_law (refine step_append_lies _ rfl _ _ 53 rfl wv.heap.size 9 i0 (.string ⟨#[]⟩) 1 16 Try.underlying53 hi0 hz0 hz1 hz2 rfl (by decide) (.slice va j vc) j ((M.1.take j).map fun t => Value.string (strB t.s)) rfl (own_agree (HOW.out.alloc (.cells #[.string SX] 9)) fun q _ => rfl) ⟨wr.heap.size, 0, none⟩ 1 1 [.string SX] rfl rfl (fun q u hu => news_at (w := wr) (t := 9) (cs := [.string SX]) rfl q u hu) (by simp [Value.oneCell']) (by decide) Q1.out Q2.out (by have := HSZ.out; simp; exact Nat.le_succ_of_le this) _ rfl ?_; intro g cap w9 hown9 hgrow hat hlt9; have HNB9 := (HNB.out.alloc (.cells #[.string SX] 9)).drew.grown hgrow (fun q hq => (HLO.out q hq).1); have z9 := (Box.drew (HBX.out.alloc (.cells #[.string SX] 9))).grown hgrow (fun q => by have := (HLO.out pb q.symm).1; omega); obtain ⟨_, _, _, _, _, _, _, _, _⟩ := nine_cells z9; obtain ⟨_, _, _, _, _, _, _, _, _⟩ := nine_frozen z9; have hz9 := z9.lt; have HOWN := Lib.hid hown9; have HNB9 := Lib.hid HNB9; have HZ9 := Lib.hid z9; clear z9 hown9 hgrow hat)
        all_goals (have HNB8 := Lib.hid (HNB9.out.set 2 (.slice (some ⟨g, 0, none⟩) (j + 1) cap)); have HB8 : Hid (Box (w9.setCell ⟨pb, 2, none⟩ (.slice (some ⟨g, 0, none⟩) (j + 1) cap)) pb 161 [.int .i64 (A.1.p : Int), .string (strB A.1.s), .slice (some ⟨g, 0, none⟩) (j + 1) cap, .int .i64 y0, .int .i64 y1, .string (strB y3), .int .i64 y2, .slice y4 y6 y8, .slice y5 y7 y9]) := HZ9.out.set 2 (.slice (some ⟨g, 0, none⟩) (j + 1) cap); have HO8 : Hid ((w9.setCell ⟨pb, 2, none⟩ (.slice (some ⟨g, 0, none⟩) (j + 1) cap)).ownsRow wv.heap.size 9 1 (.slice (some ⟨g, 0, none⟩) (j + 1) cap) (j + 1) ((M.1.take (j + 1)).map fun t => Value.string (strB t.s))) := (by rw [HTJ.out, HSX.out]; exact own_agree HOWN.out fun q hq => Below.heap_setCell w9 ⟨pb, 2, none⟩ _ q (fun e => by have e' : q = pb := e; have := (ownsRow_lo HOWN.out q hq).1; omega)))
        all_goals (clear HNB9 HZ9 HOWN HTJ HSX)
        all_goals go_wp2_with fail
        all_goals go_roundg (N - (j + 1))
        all_goals first
          | omega
          | exact ⟨j + 1, _, by omega, by omega, by go_num, HNB8, HB8, HO8⟩
      · obtain rfl : j = N := by omega
        have hC := HC.out.putN HNB.out hpl
        have hres := Cay.res (W := W) (t := 161) (cs := [.int .i64 0, .string ⟨#[]⟩, .slice none 0 0, .int .i64 0, .int .i64 0, .string ⟨#[]⟩, .int .i64 0, .slice none 0 0, .slice none 0 0]) hC hR0
        obtain ⟨_, _, _, _, _, _, _, _, _⟩ := nine_cells HBX.out
        have hpw := HBX.out.lt
        have HRES := Lib.hid hres
        have HC9 := Lib.hid hC
        clear hres hC
        go_wp2_with (refine wpList_store_box rfl 161 _ _ rfl W.heap.size [.int .i64 (A.1.p : Int), .string (strB A.1.s), .slice va j vc, .int .i64 y0, .int .i64 y1, .string (strB y3), .int .i64 y2, .slice y4 y6 y8, .slice y5 y7 y9] rfl rfl 161 _ HRES.out Try.altSize rfl (by simp [Value.oneCell']) ?_; intro w7 BT7 ht7)
        obtain ⟨_, _, _, _, _, _, _, _, _⟩ := nine_cells BT7
        refine bodyPost_ret (v := .agg #[.int .i64 (A.1.p : Int), .string (strB A.1.s), .slice va j vc, .int .i64 y0, .int .i64 y1, .string (strB y3), .int .i64 y2, .slice y4 y6 y8, .slice y5 y7 y9]) (by simp only [results, Try.results104]; go_simp <;> rfl) rfl ?_
        refine tellsY H0.out HC9.out (Nb.of_two ht7) (by rw [HR.out]) (.mk A.1.p A.1.s (M.1.map Tk.s) xb) (fun h => by rw [HR.out] at h ⊢; rw [HTb.out h]) ?_
        have hnm : InC (New (W.alloc (.cells #[.int .i64 0, .string ⟨#[]⟩, .slice none 0 0, .int .i64 0, .int .i64 0, .string ⟨#[]⟩, .int .i64 0, .slice none 0 0, .slice none 0 0] 161))) wr (.s (M.1.map Tk.s).length 1 (strsC (M.1.map Tk.s))) (.slice va j vc) := by
          have h1 := HOW.out
          rw [List.take_of_length_le (by have := HN.out; omega)] at h1
          rw [List.length_map, HN.out]
          exact InC.of_owns h1 (by have := strsC_ins (New (W.alloc (.cells #[.int .i64 0, .string ⟨#[]⟩, .slice none 0 0, .int .i64 0, .int .i64 0, .string ⟨#[]⟩, .int .i64 0, .slice none 0 0, .slice none 0 0] 161))) wr (M.1.map Tk.s); rw [List.map_map] at this; exact this) (fun b hb => by have := (HLO.out b hb).1; have := HC.out.size; unfold New; omega) (by simp [strsC, HN.out])
        have hvv : IsV (New (W.alloc (.cells #[.int .i64 0, .string ⟨#[]⟩, .slice none 0 0, .int .i64 0, .int .i64 0, .string ⟨#[]⟩, .int .i64 0, .slice none 0 0, .slice none 0 0] 161))) wr (exC xb) (.agg #[.int .i64 y0, .int .i64 y1, .string (strB y3), .int .i64 y2, .slice y4 y6 y8, .slice y5 y7 y9]) := HV.out.agree (fun b h1 h2 => ⟨h1.1, HNB.out.block b h2 h1.2⟩) HNB.out.size
        exact IsV.of_al hnm (us := [.int .i64 y0, .int .i64 y1, .string (strB y3), .int .i64 y2, .slice y4 y6 y8, .slice y5 y7 y9]) hvv rfl

end Go.Proofs.Ytgkeblpjmfdhkaa
