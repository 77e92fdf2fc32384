/- Package parse's reader: let. Package parse's reader: choice. Package parse's reader: alt. A whole struct stored into a block of its own: the world behind it is opaque. No program. Package parse's reader: cases. Package parse's reader: app. Package parse's reader: expr; an expression, a type, however deep. -/
import Derived.Test.YtccilgemfkdmkaaZE
import Derived.Test.YtccilgemfkdmkaaZD
import Derived.Test.YtccilgemfkdmkaaZC
import Derived.Deep.MidRow
namespace Go.Proofs.Ytccilgemfkdmkaa
open Go.RowKit Go.Maps
set_option linter.unusedVariables false
set_option linter.unusedSimpArgs false

theorem IsV.bd {S : Nat → Prop} {w : World} {v : Value} {b : Bd} (h : IsV S w (bdC b) v) : ∃ (k p n : Int) (s : By) (a a' : Option Addr) (m m' cp cp' : Nat), v = .agg #[.string (strB b.s), .int .i64 b.p, .int .i64 k, .int .i64 p, .string (strB s), .int .i64 n, .slice a m cp, .slice a' m' cp'] ∧ IsV S w (exC b.body) (.agg #[.int .i64 k, .int .i64 p, .string (strB s), .int .i64 n, .slice a m cp, .slice a' m' cp']) := by
  obtain ⟨us, rfl, h⟩ := h
  unfold bdC at h
  obtain ⟨u0, r0, rfl, l0⟩ := three_cons (n := (exC b.body).length + 1) (by simpa using h.1)
  obtain ⟨u1, r1, rfl, l1⟩ := three_cons (n := (exC b.body).length) l0
  obtain rfl := h.head.val
  obtain rfl := h.tail.head.val
  have h2 : IsV S w (exC b.body) (.agg r1.toArray) := ⟨r1, rfl, h.tail.tail⟩
  obtain ⟨k, q, n, s2, a2, a3, m2, m3, c2, c3, hv, _⟩ := h2.exs
  have e : r1 = [.int .i64 k, .int .i64 q, .string (strB s2), .int .i64 n, .slice a2 m2 c2, .slice a3 m3 c3] := by
    have := congrArg (fun v => v.cells.toList) hv
    simpa [Value.cells] using this
  subst e
  exact ⟨k, q, n, s2, a2, a3, m2, m3, c2, c3, rfl, h2⟩
theorem s8 {w : World} {b : Nat} {t : TypeId} {c0 c1 c2 c3 c4 c5 c6 c7 : Value} (h : Box w b t [c0, c1, c2, c3, c4, c5, c6, c7]) : w.cell? ⟨b, 0, none⟩ = some c0 ∧ w.cell? ⟨b, 2, none⟩ = some c2 ∧ w.cell? ⟨b, 3, none⟩ = some c3 ∧ w.cell? ⟨b, 4, none⟩ = some c4 ∧ w.cell? ⟨b, 5, none⟩ = some c5 ∧ w.cell? ⟨b, 6, none⟩ = some c6 ∧ w.cell? ⟨b, 7, none⟩ = some c7 :=
  ⟨h.cell 0, h.cell 2, h.cell 3, h.cell 4, h.cell 5, h.cell 6, h.cell 7⟩
theorem Box.set6o {w : World} {b B : Nat} {t : TypeId} {cs : List Value} (h : Box w b t cs) (hn : b ≠ B) (v0 v1 v2 v3 v4 v5 : Value) : Box ((((((w.setCell ⟨B, 0, none⟩ v0).setCell ⟨B, 1, none⟩ v1).setCell ⟨B, 2, none⟩ v2).setCell ⟨B, 3, none⟩ v3).setCell ⟨B, 4, none⟩ v4).setCell ⟨B, 5, none⟩ v5) b t cs :=
  (((((h.setOther (a := ⟨B, 0, none⟩) hn v0).setOther (a := ⟨B, 1, none⟩) hn v1).setOther (a := ⟨B, 2, none⟩) hn v2).setOther (a := ⟨B, 3, none⟩) hn v3).setOther (a := ⟨B, 4, none⟩) hn v4).setOther (a := ⟨B, 5, none⟩) hn v5
theorem stayB {R b : Nat} {t : TypeId} {w w' : World} {cs : List Value} (ho : Out (fun b => b = R) w w') (h : Box w b t cs) (hn : b ≠ R) : Box w' b t cs := ho.box h hn

set_option maxRecDepth 100000 in
set_option maxHeartbeats 4000000 in
theorem k_let {c : Cx} {n : Nat} {X : PS → Ex × PS} (HONE : ∀ (W0 W : World) (τ : PS), Car c W0 W τ → τ.ts.length < n → Calls Try.prog 105 #[.pointer (some ⟨c.R, 0, none⟩)] W (Tells c W0 W exC (X τ))) (hdec : Dec X)
    {W0 W : World} {σ : PS} (h : Car c W0 W σ) (hlen : σ.ts.length ≤ n) (hsee : σ.sees (sW tLet) = true) {R : Ex × PS} (hR : letF c.En X σ = R) :
    Calls Try.prog 120 #[.pointer (some ⟨c.R, 0, none⟩)] W (Tells c W0 W exC R) := by
  have hfs := fld_s
  have hfp := fld_p
  have hR0 := h.rd.lt
  have hR1 : c.R < (W.alloc (.cells #[.int .i64 0, .int .i64 0, .string ⟨#[]⟩, .int .i64 0, .slice none 0 0, .slice none 0 0] 43)).heap.size := by simp; omega
  have hWs : (W.alloc (.cells #[.int .i64 0, .int .i64 0, .string ⟨#[]⟩, .int .i64 0, .slice none 0 0, .slice none 0 0] 43)).heap.size = W.heap.size + 1 := by simp
  have hlen6 := h.rd.len
  obtain ⟨A, hA⟩ : ∃ A, σ.take c.En (sW tLet) = A := ⟨_, rfl⟩
  obtain ⟨B, hB⟩ : ∃ B, bindF c.En X A.2 = B := ⟨_, rfl⟩
  obtain ⟨D, hD⟩ : ∃ D, B.2.take c.En (sW tIn) = D := ⟨_, rfl⟩
  obtain ⟨Y, hY⟩ : ∃ Y, X D.2 = Y := ⟨_, rfl⟩
  have l1 : A.2.ts.length < σ.ts.length := by rw [← hA]; exact take_lt hsee (by decide)
  have l2 : B.2.ts.length ≤ A.2.ts.length := by rw [← hB]; exact bindF_len hdec _
  have l4 : D.2.ts.length ≤ B.2.ts.length := by rw [← hD]; exact take_len _ _ _
  have HR : Hid (R = (.mk 7 A.1.p B.1.s 0 [B.1.body, Y.1] [], Y.2)) := by show _ = _; rw [← hR, ← hY, ← hD, ← hB, ← hA]; rfl
  have HX : Hid (∀ (W0 W : World), Car c W0 W D.2 → Calls Try.prog 105 #[.pointer (some ⟨c.R, 0, none⟩)] W (Tells c W0 W exC Y)) := fun W0 W hc => hY ▸ HONE W0 W D.2 hc (by omega)
  have HBI : Hid (∀ (W0 W : World), Car c W0 W A.2 → Calls Try.prog 60 #[.pointer (some ⟨c.R, 0, none⟩)] W (Tells c W0 W bdC B)) := fun W0 W hc => k_bind HONE hdec hc (by omega) hB
  have HA := Lib.hid hA
  have HD := Lib.hid hD
  have H0 := Lib.hid h
  have H1 := Lib.hid (h.begin (.cells #[.int .i64 0, .int .i64 0, .string ⟨#[]⟩, .int .i64 0, .slice none 0 0, .slice none 0 0] 43))
  clear h hR HONE hdec hA hB hD hY l1 l2 l4 hsee hlen
  go_enter Try.func120, Try.ntmps120
  go_wp2_with (first
    | (go_at_call 55; refine (k_word H1.out _).mono ?_; clear H1; rintro e w1 ⟨rfl, H1, ho1⟩; (try (replace HB3 := Lib.hid (stayB ho1 HB3.out hB3n); replace HV := Lib.hid (stay ho1 hR1 HV.out))); clear ho1; replace H1 := Lib.hid H1)
    | (go_at_call 59; refine (k_take H1.out (sW tLet) (sortFit (by decide) (by decide)) (by decide) rfl rfl HA.out).mono ?_; clear HA; clear H1; rintro e w1 ⟨rfl, H1, ho1⟩; clear ho1; replace H1 := Lib.hid H1)
    | (go_at_call 60; refine (HBI.out _ _ H1.out).mono ?_; clear H1; rintro e w3 ⟨v1, rfl, hv1, H1, ho1⟩; obtain ⟨x0, x1, x2, x3, x4, x5, x6, x7, x8, x9, hx9, hv2⟩ := hv1.bd; subst hx9; have hB3l := H1.size; have hB3n : w3.heap.size ≠ c.R := (by have := H1.rd.lt; omega); have hB3r : w3.heap.size ≠ W.heap.size := (by omega); have HB3 := Lib.hid (Box.new w3 45 [.string (strB B.1.s), .int .i64 B.1.p, .int .i64 x0, .int .i64 x1, .string (strB x3), .int .i64 x2, .slice x4 x6 x8, .slice x5 x7 x9]); have HV := Lib.hid (hv2.under ((Below.refl _ w3).alloc (Nat.le_refl _) (.cells #[.string (strB B.1.s), .int .i64 B.1.p, .int .i64 x0, .int .i64 x1, .string (strB x3), .int .i64 x2, .slice x4 x6 x8, .slice x5 x7 x9] 45))); clear ho1 hv1 hv2; replace H1 := Lib.hid (H1.alloc (.cells #[.string (strB B.1.s), .int .i64 B.1.p, .int .i64 x0, .int .i64 x1, .string (strB x3), .int .i64 x2, .slice x4 x6 x8, .slice x5 x7 x9] 45)))
    | (go_at_call 59; refine (k_take H1.out (sW tIn) (sortFit (by decide) (by decide)) (by decide) rfl rfl HD.out).mono ?_; clear HD; clear H1; rintro e w1 ⟨rfl, H1, ho1⟩; replace HB3 := Lib.hid (stayB ho1 HB3.out hB3n); replace HV := Lib.hid (stay ho1 hR1 HV.out); have hcl := HB3.out.lt; obtain ⟨_, _, _, _, _, _, _, _⟩ := eight_cells HB3.out; clear ho1; replace H1 := Lib.hid H1))
  have HS0 := Lib.hid (s8 (Box.drew HB3.out))
  go_region_held3 (fun w' => w'.cell? ⟨w3.heap.size, 0, none⟩ = some (.string (strB B.1.s)) ∧ w'.cell? ⟨w3.heap.size, 2, none⟩ = some (.int .i64 x0) ∧ w'.cell? ⟨w3.heap.size, 3, none⟩ = some (.int .i64 x1) ∧ w'.cell? ⟨w3.heap.size, 4, none⟩ = some (.string (strB x3)) ∧ w'.cell? ⟨w3.heap.size, 5, none⟩ = some (.int .i64 x2) ∧ w'.cell? ⟨w3.heap.size, 6, none⟩ = some (.slice x4 x6 x8) ∧ w'.cell? ⟨w3.heap.size, 7, none⟩ = some (.slice x5 x7 x9))
    (first
      | (with_reducible apply HS0.out)
      | (with_reducible apply HS1.out)
      | (with_reducible apply HS2.out)
      | (with_reducible apply HS3.out))
    (first
      | (go_at_call 105; (with_reducible refine (HX.out _ _ (Car.drew H1.out)).mono ?_); rintro e w4 ⟨v1, rfl, hv1, H4, ho1⟩; obtain ⟨y0, y1, y2, y3, y4, y5, y6, y7, y8, y9, hy9, _⟩ := hv1.exs; subst hy9; have HV4 := Lib.hid (stay ho1 hR1 HV.out.drew); have HB4 := Lib.hid (stayB ho1 (Box.drew HB3.out) hB3n); obtain ⟨_, _, _, _, _, _, _, _⟩ := eight_cells HB4.out; have hw34 : w3.heap.size < w4.heap.size := HB4.out.lt; have HS1 := Lib.hid (s8 HB4.out); have HS2 := Lib.hid (s8 (HB4.out.alloc (.cells #[.int .i64 x0, .int .i64 x1, .string (strB x3), .int .i64 x2, .slice x4 x6 x8, .slice x5 x7 x9, .int .i64 y0, .int .i64 y1, .string (strB y3), .int .i64 y2, .slice y4 y6 y8, .slice y5 y7 y9] 43))); have HS3 := Lib.hid (s8 ((Box.set6o HB4.out hB3r (.int .i64 7) (.int .i64 (A.1.p : Int)) (.string (strB B.1.s)) (.int .i64 0) (.slice (some ⟨w4.heap.size, 0, none⟩) 2 2) (.slice none 0 0)).alloc (.cells #[.int .i64 x0, .int .i64 x1, .string (strB x3), .int .i64 x2, .slice x4 x6 x8, .slice x5 x7 x9, .int .i64 y0, .int .i64 y1, .string (strB y3), .int .i64 y2, .slice y4 y6 y8, .slice y5 y7 y9] 43))); have hb4 := H4.res hR0; obtain ⟨_, _, _, _, _, _⟩ := six_cells hb4; obtain ⟨_, _, _, _, _, _⟩ := six_frozen hb4; have hw04 : W.heap.size < w4.heap.size := hb4.lt; clear hb4; have HW := Lib.hid hv1; have H4 := Lib.hid H4; clear ho1 hv1)
      | fail)
  all_goals (rename_i hh; clear hh HS0 HS1 HS2 HS3)
  all_goals (refine (by assumption : ∀ (a : Act) (w : World), Code.wp Try.prog Code.ret (bodyPost Try.prog Try.f120 (Tells c W0 W exC R)) a w → (_ : Act → World → Prop) a w) _ _ (wp_ret ?_))
  all_goals (refine bodyPost_ret (v := .agg #[.int .i64 7, .int .i64 (A.1.p : Int), .string (strB B.1.s), .int .i64 0, .slice (some ⟨w4.heap.size, 0, none⟩) 2 2, .slice none 0 0]) (by simp only [results, Try.results120]; go_simp <;> rfl) rfl ?_)
  all_goals (refine tells H0.out (H4.out.alloc (.cells #[.int .i64 x0, .int .i64 x1, .string (strB x3), .int .i64 x2, .slice x4 x6 x8, .slice x5 x7 x9, .int .i64 y0, .int .i64 y1, .string (strB y3), .int .i64 y2, .slice y4 y6 y8, .slice y5 y7 y9] 43)) (Nb.both (by repeat (first | with_reducible exact Nb.refl _ _ | with_reducible refine Nb.set ?_ _ _)) (by simp) _) (by rw [HR.out]) ?_)
  all_goals (rw [HR.out]; refine IsV.of_ex (s := B.1.s) (kids := [B.1.body, Y.1]) (alts := []) ?_ (.e _ _ _); have hk := InC.two (k := 6) (t := 43) (us := [.int .i64 x0, .int .i64 x1, .string (strB x3), .int .i64 x2, .slice x4 x6 x8, .slice x5 x7 x9]) (vs := [.int .i64 y0, .int .i64 y1, .string (strB y3), .int .i64 y2, .slice y4 y6 y8, .slice y5 y7 y9]) HV4.out HW.out (by have := H4.out.size; exact this) (exC_len _) (exC_len _) rfl; simpa [exsC] using hk)

end Go.Proofs.Ytccilgemfkdmkaa

namespace Go.Proofs.Ytccilgemfkdmkaa
open Go.RowKit Go.Maps
set_option linter.unusedVariables false
set_option linter.unusedSimpArgs false

theorem InC.three {S : Nat → Prop} {w : World} {k : Nat} {t : TypeId} {cs ds es : List Cl} {us vs zs : List Value} (h1 : IsV S w cs (.agg us.toArray)) (h2 : IsV S w ds (.agg vs.toArray)) (h3 : IsV S w es (.agg zs.toArray)) (hS : S w.heap.size) (hl1 : cs.length = k) (hl2 : ds.length = k) (hl3 : es.length = k) {xs : List Value} (hx : xs = us ++ (vs ++ zs)) :
    InC S (w.alloc (.cells xs.toArray t)) (.s 3 k (cs ++ (ds ++ es))) (.slice (some ⟨w.heap.size, 0, none⟩) 3 3) := by
  subst hx
  refine InC.of_new (InS.app (by simpa [Value.cells] using h1.cells) (InS.app (by simpa [Value.cells] using h2.cells) (by simpa [Value.cells] using h3.cells))) hS (by rw [List.length_append, List.length_append, hl1, hl2, hl3]; omega) (by decide)

set_option maxRecDepth 100000 in
set_option maxHeartbeats 4000000 in
theorem k_choice {c : Cx} {n : Nat} {X : PS → Ex × PS} (HONE : ∀ (W0 W : World) (τ : PS), Car c W0 W τ → τ.ts.length < n → Calls Try.prog 105 #[.pointer (some ⟨c.R, 0, none⟩)] W (Tells c W0 W exC (X τ))) (hdec : Dec X)
    {W0 W : World} {σ : PS} (h : Car c W0 W σ) (hlen : σ.ts.length ≤ n) (hsee : σ.sees (sW tIf) = true) {R : Ex × PS} (hR : choiceF c.En X σ = R) :
    Calls Try.prog 121 #[.pointer (some ⟨c.R, 0, none⟩)] W (Tells c W0 W exC R) := by
  have hfs := fld_s
  have hfp := fld_p
  have hR0 := h.rd.lt
  have hR1 : c.R < (W.alloc (.cells #[.int .i64 0, .int .i64 0, .string ⟨#[]⟩, .int .i64 0, .slice none 0 0, .slice none 0 0] 43)).heap.size := by simp; omega
  have hWs : (W.alloc (.cells #[.int .i64 0, .int .i64 0, .string ⟨#[]⟩, .int .i64 0, .slice none 0 0, .slice none 0 0] 43)).heap.size = W.heap.size + 1 := by simp
  have hlen6 := h.rd.len
  obtain ⟨A, hA⟩ : ∃ A, σ.take c.En (sW tIf) = A := ⟨_, rfl⟩
  obtain ⟨E1, hE1⟩ : ∃ E1, X A.2 = E1 := ⟨_, rfl⟩
  obtain ⟨B, hB⟩ : ∃ B, E1.2.take c.En (sW tThen) = B := ⟨_, rfl⟩
  obtain ⟨E2, hE2⟩ : ∃ E2, X B.2 = E2 := ⟨_, rfl⟩
  obtain ⟨D, hD⟩ : ∃ D, E2.2.take c.En (sW tElse) = D := ⟨_, rfl⟩
  obtain ⟨E3, hE3⟩ : ∃ E3, X D.2 = E3 := ⟨_, rfl⟩
  have l1 : A.2.ts.length < σ.ts.length := by rw [← hA]; exact take_lt hsee (by decide)
  have l2 : E1.2.ts.length ≤ A.2.ts.length := by rw [← hE1]; exact hdec _
  have l3 : B.2.ts.length ≤ E1.2.ts.length := by rw [← hB]; exact take_len _ _ _
  have l4 : E2.2.ts.length ≤ B.2.ts.length := by rw [← hE2]; exact hdec _
  have l5 : D.2.ts.length ≤ E2.2.ts.length := by rw [← hD]; exact take_len _ _ _
  have HR : Hid (R = (.mk 9 A.1.p [] 0 [E1.1, E2.1, E3.1] [], E3.2)) := by show _ = _; rw [← hR, ← hE3, ← hD, ← hE2, ← hB, ← hE1, ← hA]; rfl
  have HX1 : Hid (∀ (W0 W : World), Car c W0 W A.2 → Calls Try.prog 105 #[.pointer (some ⟨c.R, 0, none⟩)] W (Tells c W0 W exC E1)) := fun W0 W hc => hE1 ▸ HONE W0 W A.2 hc (by omega)
  have HX2 : Hid (∀ (W0 W : World), Car c W0 W B.2 → Calls Try.prog 105 #[.pointer (some ⟨c.R, 0, none⟩)] W (Tells c W0 W exC E2)) := fun W0 W hc => hE2 ▸ HONE W0 W B.2 hc (by omega)
  have HX3 : Hid (∀ (W0 W : World), Car c W0 W D.2 → Calls Try.prog 105 #[.pointer (some ⟨c.R, 0, none⟩)] W (Tells c W0 W exC E3)) := fun W0 W hc => hE3 ▸ HONE W0 W D.2 hc (by omega)
  have HA := Lib.hid hA
  have HB := Lib.hid hB
  have HD := Lib.hid hD
  have H0 := Lib.hid h
  have H1 := Lib.hid (h.begin (.cells #[.int .i64 0, .int .i64 0, .string ⟨#[]⟩, .int .i64 0, .slice none 0 0, .slice none 0 0] 43))
  clear h hR HONE hdec hA hB hD hE1 hE2 hE3 l1 l2 l3 l4 l5 hsee hlen
  go_enter Try.func121, Try.ntmps121
  go_wp2_with (first
    | (go_at_call 55; refine (k_word H1.out _).mono ?_; clear H1; rintro e w1 ⟨rfl, H1, ho1⟩; (try (replace HBX := Lib.hid (stayB ho1 HBX.out hnHBX); replace HVX := Lib.hid (stay ho1 hR1 HVX.out))); (try (replace HBY := Lib.hid (stayB ho1 HBY.out hnHBY); replace HVY := Lib.hid (stay ho1 hR1 HVY.out))); clear ho1; replace H1 := Lib.hid H1)
    | (go_at_call 59; refine (k_take H1.out (sW tIf) (sortFit (by decide) (by decide)) (by decide) rfl rfl HA.out).mono ?_; clear HA; clear H1; rintro e w1 ⟨rfl, H1, ho1⟩; clear ho1; replace H1 := Lib.hid H1)
    | (go_at_call 105; refine (HX1.out _ _ H1.out).mono ?_; clear H1 HX1; rintro e w2 ⟨v1, rfl, hv1, H1, ho1⟩; obtain ⟨x0, x1, x2, x3, x4, x5, x6, x7, x8, x9, hx9, _⟩ := hv1.exs; subst hx9; have hlHBX := H1.size; have hnHBX : w2.heap.size ≠ c.R := (by have := H1.rd.lt; omega); have HBX := Lib.hid (Box.new w2 43 [.int .i64 x0, .int .i64 x1, .string (strB x3), .int .i64 x2, .slice x4 x6 x8, .slice x5 x7 x9]); have HVX := Lib.hid (hv1.under ((Below.refl _ w2).alloc (Nat.le_refl _) (.cells #[.int .i64 x0, .int .i64 x1, .string (strB x3), .int .i64 x2, .slice x4 x6 x8, .slice x5 x7 x9] 43))); clear ho1 hv1; replace H1 := Lib.hid (H1.alloc (.cells #[.int .i64 x0, .int .i64 x1, .string (strB x3), .int .i64 x2, .slice x4 x6 x8, .slice x5 x7 x9] 43)))
    | (go_at_call 59; refine (k_take H1.out (sW tThen) (sortFit (by decide) (by decide)) (by decide) rfl rfl HB.out).mono ?_; clear HB; clear H1; rintro e w1 ⟨rfl, H1, ho1⟩; (try (replace HBX := Lib.hid (stayB ho1 HBX.out hnHBX); replace HVX := Lib.hid (stay ho1 hR1 HVX.out))); clear ho1; replace H1 := Lib.hid H1)
    | (go_at_call 105; refine (HX2.out _ _ H1.out).mono ?_; clear H1 HX2; rintro e w3 ⟨v1, rfl, hv1, H1, ho1⟩; obtain ⟨y0, y1, y2, y3, y4, y5, y6, y7, y8, y9, hy9, _⟩ := hv1.exs; subst hy9; (try (replace HBX := Lib.hid (stayB ho1 HBX.out hnHBX); replace HVX := Lib.hid (stay ho1 hR1 HVX.out))); replace HBX := Lib.hid (HBX.out.alloc (.cells #[.int .i64 y0, .int .i64 y1, .string (strB y3), .int .i64 y2, .slice y4 y6 y8, .slice y5 y7 y9] 43)); replace HVX := Lib.hid (HVX.out.under ((Below.refl _ w3).alloc (Nat.le_refl _) (.cells #[.int .i64 y0, .int .i64 y1, .string (strB y3), .int .i64 y2, .slice y4 y6 y8, .slice y5 y7 y9] 43))); have hlHBY := H1.size; have hnHBY : w3.heap.size ≠ c.R := (by have := H1.rd.lt; omega); have HBY := Lib.hid (Box.new w3 43 [.int .i64 y0, .int .i64 y1, .string (strB y3), .int .i64 y2, .slice y4 y6 y8, .slice y5 y7 y9]); have HVY := Lib.hid (hv1.under ((Below.refl _ w3).alloc (Nat.le_refl _) (.cells #[.int .i64 y0, .int .i64 y1, .string (strB y3), .int .i64 y2, .slice y4 y6 y8, .slice y5 y7 y9] 43))); clear ho1 hv1; replace H1 := Lib.hid (H1.alloc (.cells #[.int .i64 y0, .int .i64 y1, .string (strB y3), .int .i64 y2, .slice y4 y6 y8, .slice y5 y7 y9] 43)))
    | (go_at_call 59; refine (k_take H1.out (sW tElse) (sortFit (by decide) (by decide)) (by decide) rfl rfl HD.out).mono ?_; clear HD; clear H1; rintro e w1 ⟨rfl, H1, ho1⟩; (try (replace HBX := Lib.hid (stayB ho1 HBX.out hnHBX); replace HVX := Lib.hid (stay ho1 hR1 HVX.out))); (try (replace HBY := Lib.hid (stayB ho1 HBY.out hnHBY); replace HVY := Lib.hid (stay ho1 hR1 HVY.out))); obtain ⟨_, _, _, _, _, _⟩ := six_cells HBX.out; obtain ⟨_, _, _, _, _, _⟩ := six_cells HBY.out; have hclx := HBX.out.lt; have hcly := HBY.out.lt; clear ho1; replace H1 := Lib.hid H1))
  have HS0 := Lib.hid (And.intro (six_cells (Box.drew HBX.out)) (six_cells (Box.drew HBY.out)))
  have hnrX : w2.heap.size ≠ W.heap.size := by omega
  have hnrY : w3.heap.size ≠ W.heap.size := by omega
  go_region_held3 (fun w' => (w'.cell? ⟨w2.heap.size, 0, none⟩ = some (.int .i64 x0) ∧ w'.cell? ⟨w2.heap.size, 1, none⟩ = some (.int .i64 x1) ∧ w'.cell? ⟨w2.heap.size, 2, none⟩ = some (.string (strB x3)) ∧ w'.cell? ⟨w2.heap.size, 3, none⟩ = some (.int .i64 x2) ∧ w'.cell? ⟨w2.heap.size, 4, none⟩ = some (.slice x4 x6 x8) ∧ w'.cell? ⟨w2.heap.size, 5, none⟩ = some (.slice x5 x7 x9)) ∧ w'.cell? ⟨w3.heap.size, 0, none⟩ = some (.int .i64 y0) ∧ w'.cell? ⟨w3.heap.size, 1, none⟩ = some (.int .i64 y1) ∧ w'.cell? ⟨w3.heap.size, 2, none⟩ = some (.string (strB y3)) ∧ w'.cell? ⟨w3.heap.size, 3, none⟩ = some (.int .i64 y2) ∧ w'.cell? ⟨w3.heap.size, 4, none⟩ = some (.slice y4 y6 y8) ∧ w'.cell? ⟨w3.heap.size, 5, none⟩ = some (.slice y5 y7 y9))
    (first
      | (with_reducible apply HS0.out)
      | (with_reducible apply HS1.out)
      | (with_reducible apply HS2.out)
      | (with_reducible apply HS3.out))
    (first
      | (go_at_call 105; (with_reducible refine (HX3.out _ _ (Car.drew H1.out)).mono ?_); rintro e w4 ⟨v1, rfl, hv1, H4, ho1⟩; obtain ⟨z0, z1, z2, z3, z4, z5, z6, z7, z8, z9, hz9, _⟩ := hv1.exs; subst hz9; have HV4 := Lib.hid (stay ho1 hR1 HVX.out.drew); have HV5 := Lib.hid (stay ho1 hR1 HVY.out.drew); have HB4 := Lib.hid (stayB ho1 (Box.drew HBX.out) hnHBX); have HB5 := Lib.hid (stayB ho1 (Box.drew HBY.out) hnHBY); obtain ⟨_, _, _, _, _, _⟩ := six_cells HB4.out; obtain ⟨_, _, _, _, _, _⟩ := six_cells HB5.out; have hw24 : w2.heap.size < w4.heap.size := HB4.out.lt; have hw34 : w3.heap.size < w4.heap.size := HB5.out.lt; have HS1 := Lib.hid (And.intro (six_cells HB4.out) (six_cells HB5.out)); have HS2 := Lib.hid (And.intro (six_cells (HB4.out.alloc (.cells #[.int .i64 x0, .int .i64 x1, .string (strB x3), .int .i64 x2, .slice x4 x6 x8, .slice x5 x7 x9, .int .i64 y0, .int .i64 y1, .string (strB y3), .int .i64 y2, .slice y4 y6 y8, .slice y5 y7 y9, .int .i64 z0, .int .i64 z1, .string (strB z3), .int .i64 z2, .slice z4 z6 z8, .slice z5 z7 z9] 43))) (six_cells (HB5.out.alloc (.cells #[.int .i64 x0, .int .i64 x1, .string (strB x3), .int .i64 x2, .slice x4 x6 x8, .slice x5 x7 x9, .int .i64 y0, .int .i64 y1, .string (strB y3), .int .i64 y2, .slice y4 y6 y8, .slice y5 y7 y9, .int .i64 z0, .int .i64 z1, .string (strB z3), .int .i64 z2, .slice z4 z6 z8, .slice z5 z7 z9] 43)))); have HS3 := Lib.hid (And.intro (six_cells ((Box.set6o HB4.out hnrX (.int .i64 9) (.int .i64 (A.1.p : Int)) (.string ⟨#[]⟩) (.int .i64 0) (.slice (some ⟨w4.heap.size, 0, none⟩) 3 3) (.slice none 0 0)).alloc (.cells #[.int .i64 x0, .int .i64 x1, .string (strB x3), .int .i64 x2, .slice x4 x6 x8, .slice x5 x7 x9, .int .i64 y0, .int .i64 y1, .string (strB y3), .int .i64 y2, .slice y4 y6 y8, .slice y5 y7 y9, .int .i64 z0, .int .i64 z1, .string (strB z3), .int .i64 z2, .slice z4 z6 z8, .slice z5 z7 z9] 43))) (six_cells ((Box.set6o HB5.out hnrY (.int .i64 9) (.int .i64 (A.1.p : Int)) (.string ⟨#[]⟩) (.int .i64 0) (.slice (some ⟨w4.heap.size, 0, none⟩) 3 3) (.slice none 0 0)).alloc (.cells #[.int .i64 x0, .int .i64 x1, .string (strB x3), .int .i64 x2, .slice x4 x6 x8, .slice x5 x7 x9, .int .i64 y0, .int .i64 y1, .string (strB y3), .int .i64 y2, .slice y4 y6 y8, .slice y5 y7 y9, .int .i64 z0, .int .i64 z1, .string (strB z3), .int .i64 z2, .slice z4 z6 z8, .slice z5 z7 z9] 43)))); have hb4 := H4.res hR0; obtain ⟨_, _, _, _, _, _⟩ := six_cells hb4; obtain ⟨_, _, _, _, _, _⟩ := six_frozen hb4; have hw04 : W.heap.size < w4.heap.size := hb4.lt; clear hb4; have HW := Lib.hid hv1; have H4 := Lib.hid H4; clear ho1 hv1)
      | fail)
  all_goals (rename_i hh; clear hh HS0 HS1 HS2 HS3)
  all_goals (refine (by assumption : ∀ (a : Act) (w : World), Code.wp Try.prog Code.ret (bodyPost Try.prog Try.f121 (Tells c W0 W exC R)) a w → (_ : Act → World → Prop) a w) _ _ (wp_ret ?_))
  all_goals (refine bodyPost_ret (v := .agg #[.int .i64 9, .int .i64 (A.1.p : Int), .string ⟨#[]⟩, .int .i64 0, .slice (some ⟨w4.heap.size, 0, none⟩) 3 3, .slice none 0 0]) (by simp only [results, Try.results121]; go_simp <;> rfl) rfl ?_)
  all_goals (refine tells H0.out (H4.out.alloc (.cells #[.int .i64 x0, .int .i64 x1, .string (strB x3), .int .i64 x2, .slice x4 x6 x8, .slice x5 x7 x9, .int .i64 y0, .int .i64 y1, .string (strB y3), .int .i64 y2, .slice y4 y6 y8, .slice y5 y7 y9, .int .i64 z0, .int .i64 z1, .string (strB z3), .int .i64 z2, .slice z4 z6 z8, .slice z5 z7 z9] 43)) (Nb.both (by repeat (first | with_reducible exact Nb.refl _ _ | with_reducible refine Nb.set ?_ _ _)) (by simp) _) (by rw [HR.out]) ?_)
  all_goals (rw [HR.out]; refine IsV.of_ex (s := []) (kids := [E1.1, E2.1, E3.1]) (alts := []) ?_ (.e _ _ _); have hk := InC.three (k := 6) (t := 43) (us := [.int .i64 x0, .int .i64 x1, .string (strB x3), .int .i64 x2, .slice x4 x6 x8, .slice x5 x7 x9]) (vs := [.int .i64 y0, .int .i64 y1, .string (strB y3), .int .i64 y2, .slice y4 y6 y8, .slice y5 y7 y9]) (zs := [.int .i64 z0, .int .i64 z1, .string (strB z3), .int .i64 z2, .slice z4 z6 z8, .slice z5 z7 z9]) HV4.out HV5.out HW.out (by have := H4.out.size; exact this) (exC_len _) (exC_len _) (exC_len _) rfl; simpa [exsC] using hk)

end Go.Proofs.Ytccilgemfkdmkaa

namespace Go.Proofs.Ytccilgemfkdmkaa
open Go.RowKit Go.Maps
set_option linter.unusedVariables false
set_option linter.unusedSimpArgs false

theorem Box.set9o {w : World} {b B : Nat} {t : TypeId} {cs : List Value} (h : Box w b t cs) (hn : b ≠ B) (v0 v1 v2 v3 v4 v5 v6 v7 v8 : Value) : Box (((((((((w.setCell ⟨B, 0, none⟩ v0).setCell ⟨B, 1, none⟩ v1).setCell ⟨B, 2, none⟩ v2).setCell ⟨B, 3, none⟩ v3).setCell ⟨B, 4, none⟩ v4).setCell ⟨B, 5, none⟩ v5).setCell ⟨B, 6, none⟩ v6).setCell ⟨B, 7, none⟩ v7).setCell ⟨B, 8, none⟩ v8) b t cs := (((((((((h.setOther (a := ⟨B, 0, none⟩) hn v0).setOther (a := ⟨B, 1, none⟩) hn v1).setOther (a := ⟨B, 2, none⟩) hn v2).setOther (a := ⟨B, 3, none⟩) hn v3).setOther (a := ⟨B, 4, none⟩) hn v4).setOther (a := ⟨B, 5, none⟩) hn v5).setOther (a := ⟨B, 6, none⟩) hn v6).setOther (a := ⟨B, 7, none⟩) hn v7).setOther (a := ⟨B, 8, none⟩) hn v8)
theorem nine_cells {w : World} {b : Nat} {t : TypeId} {c0 c1 c2 c3 c4 c5 c6 c7 c8 : Value} (h : Box w b t [c0, c1, c2, c3, c4, c5, c6, c7, c8]) : w.cell? ⟨b, 0, none⟩ = some c0 ∧ w.cell? ⟨b, 1, none⟩ = some c1 ∧ w.cell? ⟨b, 2, none⟩ = some c2 ∧ w.cell? ⟨b, 3, none⟩ = some c3 ∧ w.cell? ⟨b, 4, none⟩ = some c4 ∧ w.cell? ⟨b, 5, none⟩ = some c5 ∧ w.cell? ⟨b, 6, none⟩ = some c6 ∧ w.cell? ⟨b, 7, none⟩ = some c7 ∧ w.cell? ⟨b, 8, none⟩ = some c8 := ⟨h.cell 0, h.cell 1, h.cell 2, h.cell 3, h.cell 4, h.cell 5, h.cell 6, h.cell 7, h.cell 8⟩
theorem nine_frozen {w : World} {b : Nat} {t : TypeId} {c0 c1 c2 c3 c4 c5 c6 c7 c8 : Value} (h : Box w b t [c0, c1, c2, c3, c4, c5, c6, c7, c8]) : w.frozen? ⟨b, 0, none⟩ = false ∧ w.frozen? ⟨b, 1, none⟩ = false ∧ w.frozen? ⟨b, 2, none⟩ = false ∧ w.frozen? ⟨b, 3, none⟩ = false ∧ w.frozen? ⟨b, 4, none⟩ = false ∧ w.frozen? ⟨b, 5, none⟩ = false ∧ w.frozen? ⟨b, 6, none⟩ = false ∧ w.frozen? ⟨b, 7, none⟩ = false ∧ w.frozen? ⟨b, 8, none⟩ = false := ⟨h.frozen 0, h.frozen 1, h.frozen 2, h.frozen 3, h.frozen 4, h.frozen 5, h.frozen 6, h.frozen 7, h.frozen 8⟩
theorem c12 {w : World} {b : Nat} {t : TypeId} {c0 c1 c2 c3 : Value} (h : Box w b t [c0, c1, c2, c3]) : w.cell? ⟨b, 1, none⟩ = some c1 ∧ w.cell? ⟨b, 2, none⟩ = some c2 := ⟨h.cell 1, h.cell 2⟩
theorem IsV.of_al {S : Nat → Prop} {w : World} {p : Int} {s : By} {names : List By} {x : Ex} {nv : Value} {us : List Value} (hn : InC S w (.s names.length 1 (strsC names)) nv) (h : IsV S w (exC x) (.agg us.toArray)) {vs : List Value} (hv : vs = .int .i64 p :: .string (strB s) :: nv :: us) : IsV S w (alC (.mk p s names x)) (.agg vs.toArray) := by
  subst hv
  exact ⟨_, rfl, InS.cons (.v _) (InS.cons (.v _) (InS.cons hn (by simpa [Value.cells] using h.cells)))⟩

set_option maxRecDepth 100000 in
set_option maxHeartbeats 4000000 in
theorem k_alt {c : Cx} {n : Nat} {X : PS → Ex × PS} (HONE : ∀ (W0 W : World) (τ : PS), Car c W0 W τ → τ.ts.length < n → Calls Try.prog 105 #[.pointer (some ⟨c.R, 0, none⟩)] W (Tells c W0 W exC (X τ))) (hdec : Dec X)
    {W0 W : World} {σ : PS} (h : Car c W0 W σ) (hlen : σ.ts.length < n) {R : Al × PS} (hR : altF c.En X σ = R) :
    Calls Try.prog 130 #[.pointer (some ⟨c.R, 0, none⟩)] W (Tells c W0 W alC R) := by
  have hfs := fld_s
  have hfp := fld_p
  have hR0 := h.rd.lt
  have hR1 : c.R < (W.alloc (.cells #[.int .i64 0, .string ⟨#[]⟩, .slice none 0 0, .int .i64 0, .int .i64 0, .string ⟨#[]⟩, .int .i64 0, .slice none 0 0, .slice none 0 0] 129)).heap.size := by simp; omega
  have hWs : (W.alloc (.cells #[.int .i64 0, .string ⟨#[]⟩, .slice none 0 0, .int .i64 0, .int .i64 0, .string ⟨#[]⟩, .int .i64 0, .slice none 0 0, .slice none 0 0] 129)).heap.size = W.heap.size + 1 := by simp
  have hlen6 := h.rd.len
  obtain ⟨A, hA⟩ : ∃ A, σ.take c.En sCon = A := ⟨_, rfl⟩
  obtain ⟨M, hM⟩ : ∃ M, A.2.names = M := ⟨_, rfl⟩
  obtain ⟨D, hD⟩ : ∃ D, M.2.take c.En (sS tArrow) = D := ⟨_, rfl⟩
  obtain ⟨Y, hY⟩ : ∃ Y, X D.2 = Y := ⟨_, rfl⟩
  have l1 : A.2.ts.length ≤ σ.ts.length := by rw [← hA]; exact take_len _ _ _
  have l3 : M.2.ts.length ≤ A.2.ts.length := by rw [← hM]; exact names_len _
  have l4 : D.2.ts.length ≤ M.2.ts.length := by rw [← hD]; exact take_len _ _ _
  have HR : Hid (R = (.mk A.1.p A.1.s M.1 Y.1, Y.2)) := by show _ = _; rw [← hR, ← hY, ← hD, ← hM, ← hA]; rfl
  have HX : Hid (∀ (W0 W : World), Car c W0 W D.2 → Calls Try.prog 105 #[.pointer (some ⟨c.R, 0, none⟩)] W (Tells c W0 W exC Y)) := fun W0 W hc => hY ▸ HONE W0 W D.2 hc (by omega)
  have HA := Lib.hid hA
  have HM := Lib.hid hM
  have HD := Lib.hid hD
  have H0 := Lib.hid h
  have H1 := Lib.hid (h.begin (.cells #[.int .i64 0, .string ⟨#[]⟩, .slice none 0 0, .int .i64 0, .int .i64 0, .string ⟨#[]⟩, .int .i64 0, .slice none 0 0, .slice none 0 0] 129))
  clear h hR HONE hdec hA hM hD hY l1 l3 l4 hlen
  obtain ⟨L, hL⟩ : ∃ L, M.1.length = L := ⟨_, rfl⟩
  have HL := Lib.hid hL
  clear hL
  go_enter Try.func130, Try.ntmps130
  go_wp2_with (first
    | (go_at_call 54; refine (k_some H1.out _).mono ?_; clear H1; rintro e w1 ⟨rfl, H1, ho1⟩; clear ho1; replace H1 := Lib.hid H1)
    | (go_at_call 56; refine (k_sign H1.out _).mono ?_; clear H1; rintro e w1 ⟨rfl, H1, ho1⟩; (try (replace HCN := Lib.hid (stayC ho1 hR1 HCN.out))); replace HB3 := Lib.hid (stayB ho1 HB3.out hB3n); clear ho1; replace H1 := Lib.hid H1)
    | (go_at_call 59; refine (k_take H1.out sCon (sortFit (by decide) (by decide)) (by decide) rfl rfl HA.out).mono ?_; clear HA; clear H1; rintro e w3 ⟨rfl, H1, ho1⟩; have hB3l := H1.size; have hB3n : w3.heap.size ≠ c.R := (by have := H1.rd.lt; omega); have hB3r : w3.heap.size ≠ W.heap.size := (by omega); have HB3 := Lib.hid (Box.new w3 93 [.int .i64 (A.1.k : Int), .int .i64 (A.1.p : Int), .string (strB A.1.s), .int .i64 (A.1.n : Int)]); clear ho1; replace H1 := Lib.hid (H1.alloc (.cells #[.int .i64 (A.1.k : Int), .int .i64 (A.1.p : Int), .string (strB A.1.s), .int .i64 (A.1.n : Int)] 93)))
    | (go_at_call 99; refine (k_names H1.out HM.out).mono ?_; clear HM; clear H1; rw [HL.out]; rintro e w1 ⟨a1, cp1, rfl, hc1, hn1, H1, ho1⟩; replace HB3 := Lib.hid (stayB ho1 HB3.out hB3n); have HCN := Lib.hid hc1; have HNN := Lib.hid hn1; clear ho1 hc1 hn1; replace H1 := Lib.hid H1)
    | (go_at_call 59; refine (k_take H1.out (sS tArrow) (sortFit (by decide) (by decide)) (by decide) rfl rfl HD.out).mono ?_; clear HD; clear H1; rintro e w1 ⟨rfl, H1, ho1⟩; (try (replace HCN := Lib.hid (stayC ho1 hR1 HCN.out))); replace HB3 := Lib.hid (stayB ho1 HB3.out hB3n); have hcl := HB3.out.lt; clear ho1; replace H1 := Lib.hid H1))
  have HS0 := Lib.hid (c12 (Box.drew HB3.out))
  go_region_held3 (fun w' => w'.cell? ⟨w3.heap.size, 1, none⟩ = some (.int .i64 (A.1.p : Int)) ∧ w'.cell? ⟨w3.heap.size, 2, none⟩ = some (.string (strB A.1.s)))
    (first
      | (with_reducible apply HS0.out)
      | (with_reducible apply HS1.out)
      | (with_reducible apply HS3.out))
    (first
      | (go_at_call 105; (with_reducible refine (HX.out _ _ (Car.drew H1.out)).mono ?_); rintro e w4 ⟨v1, rfl, hv1, H4, ho1⟩; obtain ⟨y0, y1, y2, y3, y4, y5, y6, y7, y8, y9, hy9, _⟩ := hv1.exs; subst hy9; have HCN4 := Lib.hid (stayC ho1 hR1 HCN.out.drew); have HB4 := Lib.hid (stayB ho1 (Box.drew HB3.out) hB3n); have HS1 := Lib.hid (c12 HB4.out); have HS3 := Lib.hid (c12 (Box.set9o HB4.out hB3r (.int .i64 (A.1.p : Int)) (.string (strB A.1.s)) (.slice a1 L cp1) (.int .i64 y0) (.int .i64 y1) (.string (strB y3)) (.int .i64 y2) (.slice y4 y6 y8) (.slice y5 y7 y9))); have hb4 := H4.res hR0; obtain ⟨_, _, _, _, _, _, _, _, _⟩ := nine_cells hb4; obtain ⟨_, _, _, _, _, _, _, _, _⟩ := nine_frozen hb4; have hw04 : W.heap.size < w4.heap.size := hb4.lt; clear hb4; have HW := Lib.hid hv1; have H4 := Lib.hid H4; clear ho1 hv1)
      | fail)
  all_goals (rename_i hh; clear hh HS0 HS1 HS3)
  all_goals (refine (by assumption : ∀ (a : Act) (w : World), Code.wp Try.prog Code.ret (bodyPost Try.prog Try.f130 (Tells c W0 W alC R)) a w → (_ : Act → World → Prop) a w) _ _ (wp_ret ?_))
  refine bodyPost_ret (v := .agg #[.int .i64 (A.1.p : Int), .string (strB A.1.s), .slice a1 L cp1, .int .i64 y0, .int .i64 y1, .string (strB y3), .int .i64 y2, .slice y4 y6 y8, .slice y5 y7 y9]) (by simp only [results, Try.results130]; go_simp <;> rfl) rfl ?_
  refine tells H0.out H4.out (by repeat (first | with_reducible exact Nb.refl _ _ | with_reducible refine Nb.set ?_ _ _ | with_reducible refine Nb.alloc ?_ _ | with_reducible refine Nb.drew ?_)) (by rw [HR.out]) ?_
  rw [HR.out]
  exact IsV.of_al (p := (A.1.p : Int)) (s := A.1.s) (names := M.1) (nv := .slice a1 L cp1) (us := [.int .i64 y0, .int .i64 y1, .string (strB y3), .int .i64 y2, .slice y4 y6 y8, .slice y5 y7 y9]) (by have := HCN4.out; rwa [HL.out]) HW.out rfl

end Go.Proofs.Ytccilgemfkdmkaa

namespace Go.Proofs.Ytccilgemfkdmkaa
open Go.RowKit
set_option linter.unusedVariables false
set_option linter.unusedSimpArgs false

theorem Nb.of_two {g : Nat} {w w' : World} (h : Two g g w w') : Nb g w w' := ⟨h.os, h.tape, h.output, h.size, fun k hk hn => h.block k hk hn hn⟩
theorem Nb.trans {B : Nat} {w w' w'' : World} (h : Nb B w w') (k : Nb B w' w'') : Nb B w w'' := ⟨k.os.trans h.os, k.tape.trans h.tape, k.output.trans h.output, Nat.le_trans h.size k.size, fun i hi hn => (k.block i (Nat.lt_of_lt_of_le hi h.size) hn).trans (h.block i hi hn)⟩

end Go.Proofs.Ytccilgemfkdmkaa

namespace Go.Proofs.Ytccilgemfkdmkaa
open Go.RowKit Go.Maps
set_option linter.unusedVariables false
set_option linter.unusedSimpArgs false

theorem Try.exprSize : (Try.prog.info? 43).map (·.size) = some 6 := by kernel_rfl
set_option maxRecDepth 100000 in
set_option maxHeartbeats 4000000 in
theorem k_cases {c : Cx} {n : Nat} {X : PS → Ex × PS} (HONE : ∀ (W0 W : World) (τ : PS), Car c W0 W τ → τ.ts.length < n → Calls Try.prog 105 #[.pointer (some ⟨c.R, 0, none⟩)] W (Tells c W0 W exC (X τ))) (hdec : Dec X)
    {W0 W : World} {σ : PS} (h : Car c W0 W σ) (hlen : σ.ts.length ≤ n) (hsee : σ.sees (sW tCase) = true) {R : Ex × PS} (hR : casesF c.En X σ = R) :
    Calls Try.prog 122 #[.pointer (some ⟨c.R, 0, none⟩)] W (Tells c W0 W exC R) := by
  have hfs := fld_s
  have hfp := fld_p
  have hR0 := h.rd.lt
  have hR1 : c.R < (W.alloc (.cells #[.int .i64 0, .int .i64 0, .string ⟨#[]⟩, .int .i64 0, .slice none 0 0, .slice none 0 0] 43)).heap.size := by simp; omega
  have hWs : (W.alloc (.cells #[.int .i64 0, .int .i64 0, .string ⟨#[]⟩, .int .i64 0, .slice none 0 0, .slice none 0 0] 43)).heap.size = W.heap.size + 1 := by simp
  have hlen6 := h.rd.len
  obtain ⟨A, hA⟩ : ∃ A, σ.take c.En (sW tCase) = A := ⟨_, rfl⟩
  obtain ⟨E1, hE1⟩ : ∃ E1, X A.2 = E1 := ⟨_, rfl⟩
  obtain ⟨B, hB⟩ : ∃ B, E1.2.take c.En (sW tOf) = B := ⟨_, rfl⟩
  obtain ⟨D, hD⟩ : ∃ D, B.2.take c.En (sS tLcur) = D := ⟨_, rfl⟩
  obtain ⟨Q, hQ⟩ : ∃ Q, rowsF (sS tSemi) many (altF c.En X) D.2 = Q := ⟨_, rfl⟩
  obtain ⟨F, hF⟩ : ∃ F, Q.2.take c.En (sS tRcur) = F := ⟨_, rfl⟩
  have l1 : A.2.ts.length < σ.ts.length := by rw [← hA]; exact take_lt hsee (by decide)
  have l2 : E1.2.ts.length ≤ A.2.ts.length := by rw [← hE1]; exact hdec _
  have l3 : B.2.ts.length ≤ E1.2.ts.length := by rw [← hB]; exact take_len _ _ _
  have l4 : D.2.ts.length ≤ B.2.ts.length := by rw [← hD]; exact take_len _ _ _
  have HR : Hid (R = (.mk 10 A.1.p [] 0 [E1.1] Q.1, F.2)) := by show _ = _; rw [← hR, ← hF, ← hQ, ← hD, ← hB, ← hE1, ← hA]; rfl
  have HX1 : Hid (∀ (W0 W : World), Car c W0 W A.2 → Calls Try.prog 105 #[.pointer (some ⟨c.R, 0, none⟩)] W (Tells c W0 W exC E1)) := fun W0 W hc => hE1 ▸ HONE W0 W A.2 hc (by omega)
  have HAL : Hid (∀ (W0 W : World) (τ : PS), Car c W0 W τ → τ.ts.length < n → Calls Try.prog 130 #[.pointer (some ⟨c.R, 0, none⟩)] W (Tells c W0 W alC (altF c.En X τ))) := fun W0 W τ hc hl => k_alt HONE hdec hc hl rfl
  have HAD := Lib.hid (altF_len (En := c.En) hdec)
  have hDl : D.2.ts.length < n := by omega
  have HA := Lib.hid hA
  have HB := Lib.hid hB
  have HD := Lib.hid hD
  have HQ := Lib.hid hQ
  have HF := Lib.hid hF
  have H0 := Lib.hid h
  have H1 := Lib.hid (h.begin (.cells #[.int .i64 0, .int .i64 0, .string ⟨#[]⟩, .int .i64 0, .slice none 0 0, .slice none 0 0] 43))
  clear h hR HONE hdec hA hB hD hQ hF hE1 l1 l2 l3 l4 hsee hlen
  go_enter Try.func122, Try.ntmps122
  go_upto_region 7 with (first
    | (go_at_call 55; refine (k_word H1.out _).mono ?_; clear H1; rintro e w1 ⟨rfl, H1, ho1⟩; (try (replace HBX := Lib.hid (stayB ho1 HBX.out hnHBX); replace HVX := Lib.hid (stay ho1 hR1 HVX.out))); (try (replace HCL := Lib.hid (stayC ho1 hR1 HCL.out))); clear ho1; replace H1 := Lib.hid H1)
    | (go_at_call 56; refine (k_sign H1.out _).mono ?_; clear H1; rintro e w1 ⟨rfl, H1, ho1⟩; (try (replace HBX := Lib.hid (stayB ho1 HBX.out hnHBX); replace HVX := Lib.hid (stay ho1 hR1 HVX.out))); (try (replace HCL := Lib.hid (stayC ho1 hR1 HCL.out))); clear ho1; replace H1 := Lib.hid H1)
    | (go_at_call 59; refine (k_take H1.out (sW tCase) (sortFit (by decide) (by decide)) (by decide) rfl rfl HA.out).mono ?_; clear HA; clear H1; rintro e w1 ⟨rfl, H1, ho1⟩; clear ho1; replace H1 := Lib.hid H1)
    | (go_at_call 105; refine (HX1.out _ _ H1.out).mono ?_; clear H1 HX1; rintro e w2 ⟨v1, rfl, hv1, H1, ho1⟩; obtain ⟨x0, x1, x2, x3, x4, x5, x6, x7, x8, x9, hx9, _⟩ := hv1.exs; subst hx9; have hlHBX := H1.size; have hnHBX : w2.heap.size ≠ c.R := (by have := H1.rd.lt; omega); have HBX := Lib.hid (Box.new w2 43 [.int .i64 x0, .int .i64 x1, .string (strB x3), .int .i64 x2, .slice x4 x6 x8, .slice x5 x7 x9]); have HVX := Lib.hid (hv1.under ((Below.refl _ w2).alloc (Nat.le_refl _) (.cells #[.int .i64 x0, .int .i64 x1, .string (strB x3), .int .i64 x2, .slice x4 x6 x8, .slice x5 x7 x9] 43))); clear ho1 hv1; replace H1 := Lib.hid (H1.alloc (.cells #[.int .i64 x0, .int .i64 x1, .string (strB x3), .int .i64 x2, .slice x4 x6 x8, .slice x5 x7 x9] 43)))
    | (go_at_call 59; refine (k_take H1.out (sW tOf) (sortFit (by decide) (by decide)) (by decide) rfl rfl HB.out).mono ?_; clear HB; clear H1; rintro e w1 ⟨rfl, H1, ho1⟩; (try (replace HBX := Lib.hid (stayB ho1 HBX.out hnHBX); replace HVX := Lib.hid (stay ho1 hR1 HVX.out))); (try (replace HCL := Lib.hid (stayC ho1 hR1 HCL.out))); clear ho1; replace H1 := Lib.hid H1)
    | (go_at_call 59; refine (k_take H1.out (sS tLcur) (sortFit (by decide) (by decide)) (by decide) rfl rfl HD.out).mono ?_; clear HD; clear H1; rintro e w1 ⟨rfl, H1, ho1⟩; (try (replace HBX := Lib.hid (stayB ho1 HBX.out hnHBX); replace HVX := Lib.hid (stay ho1 hR1 HVX.out))); (try (replace HCL := Lib.hid (stayC ho1 hR1 HCL.out))); clear ho1; replace H1 := Lib.hid H1)
    | (go_at_call 129; refine (k_rowA (most := many) HAL.out HAD.out H1.out hDl tSemi (by decide) rfl (by decide) (by decide) HQ.out).mono ?_; clear HQ HAL H1; rintro e w1 ⟨a4, cp4, rfl, hcl, H1, ho1⟩; (try (replace HBX := Lib.hid (stayB ho1 HBX.out hnHBX); replace HVX := Lib.hid (stay ho1 hR1 HVX.out))); (try (replace HCL := Lib.hid (stayC ho1 hR1 HCL.out))); clear ho1; have HCL := Lib.hid hcl; clear hcl; replace H1 := Lib.hid H1)
    | (go_at_call 59; refine (k_take H1.out (sS tRcur) (sortFit (by decide) (by decide)) (by decide) rfl rfl HF.out).mono ?_; clear HF; clear H1; rintro e w1 ⟨rfl, H1, ho1⟩; (try (replace HBX := Lib.hid (stayB ho1 HBX.out hnHBX); replace HVX := Lib.hid (stay ho1 hR1 HVX.out))); (try (replace HCL := Lib.hid (stayC ho1 hR1 HCL.out))); obtain ⟨_, _, _, _, _, _⟩ := six_cells HBX.out; have hclx := HBX.out.lt; have hb4 := H1.res hR0; obtain ⟨_, _, _, _, _, _⟩ := six_cells hb4; obtain ⟨_, _, _, _, _, _⟩ := six_frozen hb4; have hcl0 := hb4.lt; clear hb4; clear ho1; replace H1 := Lib.hid H1))
  have hb4 := (H1.out.res hR0).alloc (.cells #[.int .i64 x0, .int .i64 x1, .string (strB x3), .int .i64 x2, .slice x4 x6 x8, .slice x5 x7 x9] 43)
  go_wp2_with (refine wpList_store_box rfl 43 _ _ rfl W.heap.size [.int .i64 10, .int .i64 (A.1.p : Int), .string ⟨#[]⟩, .int .i64 0, .slice (some ⟨w1.heap.size, 0, none⟩) 1 1, .slice a4 Q.1.length cp4] rfl rfl 43 _ hb4 Try.exprSize rfl (by simp [Value.oneCell']) ?_; intro w7 BT7 ht7)
  obtain ⟨_, _, _, _, _, _⟩ := six_cells BT7
  refine bodyPost_ret (v := .agg #[.int .i64 10, .int .i64 (A.1.p : Int), .string ⟨#[]⟩, .int .i64 0, .slice (some ⟨w1.heap.size, 0, none⟩) 1 1, .slice a4 Q.1.length cp4]) (by simp only [results, Try.results122]; go_simp <;> rfl) rfl ?_
  refine tells H0.out (H1.out.alloc (.cells #[.int .i64 x0, .int .i64 x1, .string (strB x3), .int .i64 x2, .slice x4 x6 x8, .slice x5 x7 x9] 43)) (Nb.of_two ht7) (by rw [HR.out]) ?_
  rw [HR.out]
  have hxx := HVX.out.cells
  have hk := InC.of_new (n := 1) (k := 6) (t := 43) (us := [.int .i64 x0, .int .i64 x1, .string (strB x3), .int .i64 x2, .slice x4 x6 x8, .slice x5 x7 x9]) (by simpa [Value.cells] using hxx) (by have := H1.out.size; exact this) (by rw [exC_len]) (by decide)
  refine IsV.of_ex (s := []) (kids := [E1.1]) (alts := Q.1) (by simpa [exsC] using hk) ?_
  have h2 := HCL.out.alloc (.cells #[.int .i64 x0, .int .i64 x1, .string (strB x3), .int .i64 x2, .slice x4 x6 x8, .slice x5 x7 x9] 43)
  rw [alsC_eq]; exact h2

end Go.Proofs.Ytccilgemfkdmkaa

namespace Go.Proofs.Ytccilgemfkdmkaa
open Go.RowKit Go.Maps
set_option linter.unusedVariables false
set_option linter.unusedSimpArgs false

theorem Car.put {c : Cx} {W1 w w' : World} {σ σ0 : PS} {g : Nat} (h : Car c W1 w σ) (h0 : Car c W1 W1 σ0) (hn : Nb g w w') (hg : W1.heap.size ≤ g) : Car c W1 w' σ :=
  ⟨h0.rd.keep h.rd fun k hk => hn.block k (Nat.lt_of_lt_of_le hk h.out.size) (by omega), ⟨hn.os.trans h.out.os, hn.tape.trans h.out.tape, hn.output.trans h.out.output, Nat.le_trans h.out.size hn.size, fun k hk hne => (hn.block k (Nat.lt_of_lt_of_le hk h.out.size) (by omega)).trans (h.out.block k hk hne)⟩, h.lt⟩
theorem appL_go {En : Nat} {X : PS → Ex × PS} {f : Nat} {e : Ex} {τ : PS} (hf : τ.ts.length ≤ f) (h2 : τ.seesAtom = true) (hd : Dec X) :
    ∃ f', appL En X f e τ = appL En X f' (.mk 5 e.at [] 0 [e, (atomF En X τ).1] []) (atomF En X τ).2 ∧ (atomF En X τ).2.ts.length ≤ f' ∧ (atomF En X τ).2.ts.length < τ.ts.length := by
  have h3 := atomF_lt (En := En) hd h2
  obtain ⟨f', rfl⟩ : ∃ f', f = f' + 1 := ⟨f - 1, by omega⟩
  exact ⟨f', by rw [appL, if_pos h2], by omega, h3⟩
theorem appL_end {En : Nat} {X : PS → Ex × PS} {f : Nat} {e : Ex} {τ : PS} (h : τ.seesAtom = false) : appL En X f e τ = (e, τ) := by
  cases f with
  | zero => rfl
  | succ f => rw [appL, if_neg (by rw [h]; decide)]
/-- What lies under app's own variable. -/
def AV (W1 : World) (B : Nat) (w : World) (e : Ex) (us : List Value) : Prop := Box w B 43 us ∧ IsV (fun b => New W1 b ∧ b ≠ B) w (exC e) (.agg us.toArray)
theorem AV.out {W1 w w' : World} {B R : Nat} {e : Ex} {us : List Value} (h : AV W1 B w e us) (ho : Out (fun b => b = R) w w') (hR : R < W1.heap.size) (hB : W1.heap.size ≤ B) : AV W1 B w' e us :=
  ⟨ho.box h.1 (by show ¬ _; omega), h.2.out ho fun b _ hb q => by have := hb.1; unfold New at this; omega⟩
theorem AV.shape {W1 w : World} {B : Nat} {e : Ex} {us : List Value} (h : AV W1 B w e us) : ∃ (k p n : Int) (s : By) (a a' : Option Addr) (m m' cp cp' : Nat), us = [.int .i64 k, .int .i64 p, .string (strB s), .int .i64 n, .slice a m cp, .slice a' m' cp'] ∧ e.at = p := by
  obtain ⟨k, p, n, s, a, a', m, m', cp, cp', hv, hp⟩ := h.2.exs
  refine ⟨k, p, n, s, a, a', m, m', cp, cp', ?_, hp⟩
  have := congrArg (fun v => v.cells.toList) hv
  simpa [Value.cells] using this

set_option maxRecDepth 100000 in
set_option maxHeartbeats 4000000 in
theorem k_app {c : Cx} {n : Nat} {X : PS → Ex × PS} (HONE : ∀ (W0 W : World) (τ : PS), Car c W0 W τ → τ.ts.length < n → Calls Try.prog 105 #[.pointer (some ⟨c.R, 0, none⟩)] W (Tells c W0 W exC (X τ))) (hdec : Dec X)
    {W0 W : World} {σ : PS} (h : Car c W0 W σ) (hlen : σ.ts.length ≤ n) {R : Ex × PS} (hR : appF c.En X σ = R) :
    Calls Try.prog 123 #[.pointer (some ⟨c.R, 0, none⟩)] W (Tells c W0 W exC R) := by
  have hfs := fld_s
  have hfp := fld_p
  have hR0 := h.rd.lt
  have hR1 : c.R < (W.alloc (.cells #[.int .i64 0, .int .i64 0, .string ⟨#[]⟩, .int .i64 0, .slice none 0 0, .slice none 0 0] 43)).heap.size := by simp; omega
  have hWs : (W.alloc (.cells #[.int .i64 0, .int .i64 0, .string ⟨#[]⟩, .int .i64 0, .slice none 0 0, .slice none 0 0] 43)).heap.size = W.heap.size + 1 := by simp
  have hlen6 := h.rd.len
  obtain ⟨A, hA⟩ : ∃ A, atomF c.En X σ = A := ⟨_, rfl⟩
  have hAl : A.2.ts.length ≤ n := by rw [← hA]; exact Nat.le_trans (atomF_len hdec _) hlen
  have HR : Hid (appL c.En X A.2.ts.length A.1 A.2 = R) := by show _ = _; rw [← hR, ← hA]; rfl
  have HONE2 := Lib.hid HONE
  have HDC := Lib.hid hdec
  have HA : Hid (∀ (W0 W : World), Car c W0 W σ → Calls Try.prog 131 #[.pointer (some ⟨c.R, 0, none⟩)] W (Tells c W0 W exC A)) := fun W0 W hc => k_atom HONE hdec hc hlen hA
  have H0 := Lib.hid h
  have HS1 := Lib.hid (h.begin (.cells #[.int .i64 0, .int .i64 0, .string ⟨#[]⟩, .int .i64 0, .slice none 0 0, .slice none 0 0] 43))
  have H1 := Lib.hid (h.begin (.cells #[.int .i64 0, .int .i64 0, .string ⟨#[]⟩, .int .i64 0, .slice none 0 0, .slice none 0 0] 43))
  clear h hR HONE hdec hA hlen
  go_enter Try.func123, Try.ntmps123
  go_wp2_with (go_at_call 131; refine (HA.out _ _ H1.out).mono ?_; clear H1; rintro e wa ⟨v1, rfl, hv1, H1, ho1⟩; obtain ⟨x0, x1, x2, x3, x4, x5, x6, x7, x8, x9, hx9, _⟩ := hv1.exs; subst hx9; have hB3l := H1.size; have HAV : Hid (AV (W.alloc (.cells #[.int .i64 0, .int .i64 0, .string ⟨#[]⟩, .int .i64 0, .slice none 0 0, .slice none 0 0] 43)) wa.heap.size (wa.alloc (.cells #[.int .i64 x0, .int .i64 x1, .string (strB x3), .int .i64 x2, .slice x4 x6 x8, .slice x5 x7 x9] 43)) A.1 [.int .i64 x0, .int .i64 x1, .string (strB x3), .int .i64 x2, .slice x4 x6 x8, .slice x5 x7 x9]) := ⟨Box.new wa 43 _, (hv1.mono fun b hb h => ⟨h, by omega⟩).under ((Below.refl _ wa).alloc (Nat.le_refl _) _)⟩; have hwa := HAV.out.1.lt; clear ho1 hv1; replace H1 := Lib.hid (H1.alloc (.cells #[.int .i64 x0, .int .i64 x1, .string (strB x3), .int .i64 x2, .slice x4 x6 x8, .slice x5 x7 x9] 43)))
  obtain ⟨W1, hW1⟩ : ∃ W1, W.alloc (.cells #[.int .i64 0, .int .i64 0, .string ⟨#[]⟩, .int .i64 0, .slice none 0 0, .slice none 0 0] 43) = W1 := ⟨_, rfl⟩
  rw [hW1] at H1 HAV HS1 hR1 hWs hB3l
  have HW1 := Lib.hid hW1
  clear hW1
  obtain ⟨B3, hB3⟩ : ∃ B3, wa.heap.size = B3 := ⟨_, rfl⟩
  rw [hB3] at HAV hwa hB3l ⊢
  clear hB3
  go_loopg [] (A.2.ts.length) (fun gn wr => ∃ (e : Ex) (τ : PS) (us : List Value) (f : Nat), Hid (Car c W1 wr τ) ∧ Hid (AV W1 B3 wr e us) ∧ Hid (appL c.En X f e τ = R) ∧ gn = τ.ts.length ∧ τ.ts.length ≤ f ∧ τ.ts.length ≤ n)
  case atStart => exact ⟨A.1, A.2, _, A.2.ts.length, H1, HAV, HR, rfl, Nat.le_refl _, hAl⟩
  case round =>
    obtain ⟨e, τ, us, f, HC, HV, HL, rfl, hf, hn⟩ := hrel
    clear HA HAV H1 HR
    have hBR : B3 ≠ c.R := by omega
    cases hs : τ.seesAtom with
    | false =>
      have HE : Hid (R = (e, τ)) := by show _ = _; rw [← HL.out]; exact appL_end hs
      have HS := Lib.hid hs
      clear hs HL
      go_wp2_with (go_at_call 132; refine (k_seesAtom HC.out HS.out).mono ?_; clear HC; rintro e1 w2 ⟨rfl, HC, ho1⟩; replace HV := Lib.hid (HV.out.out ho1 hR1 hB3l); obtain ⟨x0, x1, x2, x3, x4, x5, x6, x7, x8, x9, hx9, hx10⟩ := HV.out.shape; subst hx9; obtain ⟨_, _, _, _, _, _⟩ := six_cells HV.out.1; have hw2 := HV.out.1.lt; have hb4 := HC.out.box (HW1.out ▸ Box.new W 43 [.int .i64 0, .int .i64 0, .string ⟨#[]⟩, .int .i64 0, .slice none 0 0, .slice none 0 0]) (show ¬ (_ = c.R) by omega); obtain ⟨_, _, _, _, _, _⟩ := six_cells hb4; obtain ⟨_, _, _, _, _, _⟩ := six_frozen hb4; clear hb4 ho1; replace HC := Lib.hid HC)
      refine bodyPost_ret (v := .agg #[.int .i64 x0, .int .i64 x1, .string (strB x3), .int .i64 x2, .slice x4 x6 x8, .slice x5 x7 x9]) (by simp only [results, Try.results123]; go_simp <;> rfl) rfl ?_
      refine tells (o := (.cells #[.int .i64 0, .int .i64 0, .string ⟨#[]⟩, .int .i64 0, .slice none 0 0, .slice none 0 0] 43)) H0.out (HW1.out ▸ HC.out) (by repeat (first | with_reducible exact Nb.refl _ _ | with_reducible refine Nb.set ?_ _ _)) (by rw [HE.out]) ?_
      rw [HE.out]
      exact HW1.out ▸ (HV.out.2.mono fun b _ h => h.1)
    | true =>
      obtain ⟨f', hf1, hf2, hf3⟩ := appL_go (En := c.En) (e := e) hf hs HDC.out
      have HL2 : Hid (appL c.En X f' (.mk 5 e.at [] 0 [e, (atomF c.En X τ).1] []) (atomF c.En X τ).2 = R) := by show _ = _; rw [← hf1]; exact HL.out
      have HX : Hid (∀ (W0 W : World), Car c W0 W τ → Calls Try.prog 131 #[.pointer (some ⟨c.R, 0, none⟩)] W (Tells c W0 W exC (atomF c.En X τ))) := fun W0 W hc => k_atom HONE2.out HDC.out hc hn rfl
      have hon : (atomF c.En X τ).2.ts.length ≤ n := by omega
      have HS := Lib.hid hs
      clear hs HL hf1
      go_wp2_with (go_at_call 132; refine (k_seesAtom HC.out HS.out).mono ?_; clear HC; rintro e1 w2 ⟨rfl, HC, ho1⟩; replace HV := Lib.hid (HV.out.out ho1 hR1 hB3l); obtain ⟨x0, x1, x2, x3, x4, x5, x6, x7, x8, x9, hx9, hx10⟩ := HV.out.shape; subst hx9; have HX10 := Lib.hid hx10; clear hx10; obtain ⟨_, _, _, _, _, _⟩ := six_cells HV.out.1; have hw2 := HV.out.1.lt; clear ho1; replace HC := Lib.hid HC)
      go_region_with (go_at_call 131; (with_reducible refine (HX.out w2 _ ⟨RD.drew HC.out.rd, ⟨rfl, rfl, rfl, Nat.le_refl _, fun _ _ _ => rfl⟩, HC.out.rd.lt⟩).mono ?_); rintro e1 w4 ⟨v1, rfl, hv1, H4, ho1⟩; obtain ⟨y0, y1, y2, y3, y4, y5, y6, y7, y8, y9, hy9, _⟩ := hv1.exs; subst hy9; have HV4 : Hid (AV W1 B3 w4 e [.int .i64 x0, .int .i64 x1, .string (strB x3), .int .i64 x2, .slice x4 x6 x8, .slice x5 x7 x9]) := HV.out.out ho1.drew2 hR1 hB3l; obtain ⟨_, _, _, _, _, _⟩ := six_cells HV4.out.1; obtain ⟨_, _, _, _, _, _⟩ := six_frozen HV4.out.1; have hw4 := HV4.out.1.lt; have HW := Lib.hid hv1; have H5 := Lib.hid (HC.out.next H4.rd ho1.drew2); clear ho1 hv1 H4)
      all_goals (obtain ⟨w9, hw9⟩ : ∃ w9, (((((((w4.setCell ⟨B3, 0, none⟩ (.int .i64 5)).setCell ⟨B3, 1, none⟩ (.int .i64 x1)).setCell ⟨B3, 2, none⟩ (.string ⟨#[]⟩)).setCell ⟨B3, 3, none⟩ (.int .i64 0)).setCell ⟨B3, 4, none⟩ (.slice (some ⟨w4.heap.size, 0, none⟩) 2 2)).setCell ⟨B3, 5, none⟩ (.slice none 0 0)).alloc (.cells #[.int .i64 x0, .int .i64 x1, .string (strB x3), .int .i64 x2, .slice x4 x6 x8, .slice x5 x7 x9, .int .i64 y0, .int .i64 y1, .string (strB y3), .int .i64 y2, .slice y4 y6 y8, .slice y5 y7 y9] 43)) = w9 := ⟨_, rfl⟩)
      all_goals (rw [hw9])
      all_goals (have hN9 : Nb B3 (w4.alloc (.cells #[.int .i64 x0, .int .i64 x1, .string (strB x3), .int .i64 x2, .slice x4 x6 x8, .slice x5 x7 x9, .int .i64 y0, .int .i64 y1, .string (strB y3), .int .i64 y2, .slice y4 y6 y8, .slice y5 y7 y9] 43)) w9 := by subst hw9; exact Nb.both (by repeat (first | with_reducible exact Nb.refl _ _ | with_reducible refine Nb.set ?_ _ _)) (by simp) _)
      all_goals (have hB9 : Box w9 B3 43 [.int .i64 5, .int .i64 x1, .string ⟨#[]⟩, .int .i64 0, .slice (some ⟨w4.heap.size, 0, none⟩) 2 2, .slice none 0 0] := by subst hw9; exact (set6 HV4.out.1 rfl).alloc _)
      all_goals (clear hw9)
      all_goals (have hk := InC.two (S := fun b => New W1 b ∧ b ≠ B3) (k := 6) (t := 43) (us := [.int .i64 x0, .int .i64 x1, .string (strB x3), .int .i64 x2, .slice x4 x6 x8, .slice x5 x7 x9]) (vs := [.int .i64 y0, .int .i64 y1, .string (strB y3), .int .i64 y2, .slice y4 y6 y8, .slice y5 y7 y9]) HV4.out.2 (HW.out.mono fun b _ hb => by unfold New at *; have := HC.out.size; exact ⟨by omega, by omega⟩) (by have := H5.out.size; exact ⟨this, by omega⟩) (exC_len e) (exC_len _) rfl)
      all_goals (have HAV9 : Hid (AV W1 B3 w9 (.mk 5 e.at [] 0 [e, (atomF c.En X τ).1] []) [.int .i64 5, .int .i64 x1, .string ⟨#[]⟩, .int .i64 0, .slice (some ⟨w4.heap.size, 0, none⟩) 2 2, .slice none 0 0]) := ⟨hB9, by
        rw [HX10.out]
        exact IsV.of_ex (s := []) (kids := [e, (atomF c.En X τ).1]) (alts := []) (by simpa [exsC] using hk.agree (fun b h1 h2 => ⟨h1, hN9.block b h2 h1.2⟩) hN9.size) (.e _ _ _)⟩)
      all_goals (have HC9 : Hid (Car c W1 w9 (atomF c.En X τ).2) := (H5.out.alloc _).put HS1.out hN9 hB3l)
      all_goals (clear hk hB9 hN9 HW HV4 H5)
      all_goals go_wp2_with fail
      all_goals go_roundg (atomF c.En X τ).2.ts.length
      case measure => exact hf3
      case rel => exact ⟨_, (atomF c.En X τ).2, _, f', HC9, HAV9, HL2, rfl, hf2, hon⟩
      all_goals first
        | exact hf3
        | exact ⟨_, (atomF c.En X τ).2, _, f', HC9, HAV9, HL2, rfl, hf2, hon⟩

end Go.Proofs.Ytccilgemfkdmkaa

namespace Go.Proofs.Ytccilgemfkdmkaa
open Go.RowKit Go.Maps
set_option linter.unusedVariables false
set_option linter.unusedSimpArgs false

set_option maxRecDepth 100000 in
set_option maxHeartbeats 4000000 in
theorem k_exprStep {c : Cx} {n : Nat} {X : PS → Ex × PS} (HONE : ∀ (W0 W : World) (τ : PS), Car c W0 W τ → τ.ts.length < n → Calls Try.prog 105 #[.pointer (some ⟨c.R, 0, none⟩)] W (Tells c W0 W exC (X τ))) (hdec : Dec X)
    {W0 W : World} {σ : PS} (h : Car c W0 W σ) (hlen : σ.ts.length ≤ n) {R : Ex × PS} (hR : exprStep c.En X σ = R) :
    Calls Try.prog 105 #[.pointer (some ⟨c.R, 0, none⟩)] W (Tells c W0 W exC R) := by
  have hfs := fld_s
  have hfp := fld_p
  have hR0 := h.rd.lt
  have hR1 : c.R < (W.alloc (.cells #[.int .i64 0, .int .i64 0, .string ⟨#[]⟩, .int .i64 0, .slice none 0 0, .slice none 0 0] 43)).heap.size := by simp; omega
  have hWs : (W.alloc (.cells #[.int .i64 0, .int .i64 0, .string ⟨#[]⟩, .int .i64 0, .slice none 0 0, .slice none 0 0] 43)).heap.size = W.heap.size + 1 := by simp
  have hlen6 := h.rd.len
  obtain ⟨K, hK⟩ : ∃ K : Int, (σ.next.k : Int) = K := ⟨_, rfl⟩
  obtain ⟨S, hS⟩ : ∃ S, strB σ.next.s = S := ⟨_, rfl⟩
  obtain ⟨b, hb⟩ : ∃ b, beg σ.next = b := ⟨_, rfl⟩
  have hbs := beg_sees hb
  unfold exprStep at hR
  rw [hb] at hR
  have HF := Lib.hid (next_fit h.rd)
  have H0 := Lib.hid h
  have H1 := Lib.hid (h.begin (.cells #[.int .i64 0, .int .i64 0, .string ⟨#[]⟩, .int .i64 0, .slice none 0 0, .slice none 0 0] 43))
  have HONE2 := Lib.hid HONE
  have HD := Lib.hid hdec
  have HK := Lib.hid hK
  have HS := Lib.hid hS
  have HB := Lib.hid hb
  have hc1 := bx_cells H1.out.rd
  clear h HONE hdec hK hS hb
  by_cases h6 : b = 6
  · subst h6
    simp only [if_true, if_false, reduceIte, Nat.reduceEqDiff] at hR
    have HSE := Lib.hid (sees_of (hbs.1 rfl))
    have HR0 := Lib.hid hR
    clear hR hbs
    go_enter Try.func105, Try.ntmps105
    go_wp2_with fail
    go_region_with (go_at_call 98; (with_reducible refine (k_next (Car.drew H1.out) HK.out HS.out).mono ?_); rintro e w1 ⟨rfl, H2, ho1⟩; have hlook := beg_look H2.rd HF.out HK.out HS.out HB.out; have hc2 := bx_cells H2.rd; have H3 := Lib.hid H2; clear H2 ho1)
    all_goals go_wp2_with (go_at_call 119; refine (k_lam HONE2.out HD.out H3.out hlen HSE.out HR0.out).mono ?_; rintro e w2 ⟨v1, rfl, hv1, H4, ho1⟩; obtain ⟨x0, x1, x2, x3, x4, x5, x6, x7, x8, x9, hx9, _⟩ := hv1.exs; subst hx9; have hb4 := H4.res hR0; obtain ⟨_, _, _, _, _, _⟩ := six_cells hb4; obtain ⟨_, _, _, _, _, _⟩ := six_frozen hb4; clear hb4; have HV := Lib.hid hv1; have H4 := Lib.hid H4; clear ho1 hv1)
    all_goals (refine bodyPost_ret (v := .agg #[.int .i64 x0, .int .i64 x1, .string (strB x3), .int .i64 x2, .slice x4 x6 x8, .slice x5 x7 x9]) (by simp only [results, Try.results105]; go_simp <;> rfl) rfl ?_)
    all_goals (refine tells H0.out H4.out (by repeat (first | with_reducible exact Nb.refl _ _ | with_reducible refine Nb.set ?_ _ _)) rfl ?_)
    all_goals exact HV.out
  by_cases h7 : b = 7
  · subst h7
    simp only [if_true, if_false, reduceIte, Nat.reduceEqDiff] at hR
    have HSE := Lib.hid (sees_of (hbs.2.1 rfl))
    have HR0 := Lib.hid hR
    clear hR hbs
    go_enter Try.func105, Try.ntmps105
    go_wp2_with fail
    go_region_with (go_at_call 98; (with_reducible refine (k_next (Car.drew H1.out) HK.out HS.out).mono ?_); rintro e w1 ⟨rfl, H2, ho1⟩; have hlook := beg_look H2.rd HF.out HK.out HS.out HB.out; have hc2 := bx_cells H2.rd; have H3 := Lib.hid H2; clear H2 ho1)
    all_goals go_wp2_with (go_at_call 120; refine (k_let HONE2.out HD.out H3.out hlen HSE.out HR0.out).mono ?_; rintro e w2 ⟨v1, rfl, hv1, H4, ho1⟩; obtain ⟨x0, x1, x2, x3, x4, x5, x6, x7, x8, x9, hx9, _⟩ := hv1.exs; subst hx9; have hb4 := H4.res hR0; obtain ⟨_, _, _, _, _, _⟩ := six_cells hb4; obtain ⟨_, _, _, _, _, _⟩ := six_frozen hb4; clear hb4; have HV := Lib.hid hv1; have H4 := Lib.hid H4; clear ho1 hv1)
    all_goals (refine bodyPost_ret (v := .agg #[.int .i64 x0, .int .i64 x1, .string (strB x3), .int .i64 x2, .slice x4 x6 x8, .slice x5 x7 x9]) (by simp only [results, Try.results105]; go_simp <;> rfl) rfl ?_)
    all_goals (refine tells H0.out H4.out (by repeat (first | with_reducible exact Nb.refl _ _ | with_reducible refine Nb.set ?_ _ _)) rfl ?_)
    all_goals exact HV.out
  by_cases h9 : b = 9
  · subst h9
    simp only [if_true, if_false, reduceIte, Nat.reduceEqDiff] at hR
    have HSE := Lib.hid (sees_of (hbs.2.2.2.1 rfl))
    have HR0 := Lib.hid hR
    clear hR hbs
    go_enter Try.func105, Try.ntmps105
    go_wp2_with fail
    go_region_with (go_at_call 98; (with_reducible refine (k_next (Car.drew H1.out) HK.out HS.out).mono ?_); rintro e w1 ⟨rfl, H2, ho1⟩; have hlook := beg_look H2.rd HF.out HK.out HS.out HB.out; have hc2 := bx_cells H2.rd; have H3 := Lib.hid H2; clear H2 ho1)
    all_goals go_wp2_with (go_at_call 121; refine (k_choice HONE2.out HD.out H3.out hlen HSE.out HR0.out).mono ?_; rintro e w2 ⟨v1, rfl, hv1, H4, ho1⟩; obtain ⟨x0, x1, x2, x3, x4, x5, x6, x7, x8, x9, hx9, _⟩ := hv1.exs; subst hx9; have hb4 := H4.res hR0; obtain ⟨_, _, _, _, _, _⟩ := six_cells hb4; obtain ⟨_, _, _, _, _, _⟩ := six_frozen hb4; clear hb4; have HV := Lib.hid hv1; have H4 := Lib.hid H4; clear ho1 hv1)
    all_goals (refine bodyPost_ret (v := .agg #[.int .i64 x0, .int .i64 x1, .string (strB x3), .int .i64 x2, .slice x4 x6 x8, .slice x5 x7 x9]) (by simp only [results, Try.results105]; go_simp <;> rfl) rfl ?_)
    all_goals (refine tells H0.out H4.out (by repeat (first | with_reducible exact Nb.refl _ _ | with_reducible refine Nb.set ?_ _ _)) rfl ?_)
    all_goals exact HV.out
  by_cases h10 : b = 10
  · subst h10
    simp only [if_true, if_false, reduceIte, Nat.reduceEqDiff] at hR
    have HSE := Lib.hid (sees_of (hbs.2.2.2.2 rfl))
    have HR0 := Lib.hid hR
    clear hR hbs
    go_enter Try.func105, Try.ntmps105
    go_wp2_with fail
    go_region_with (go_at_call 98; (with_reducible refine (k_next (Car.drew H1.out) HK.out HS.out).mono ?_); rintro e w1 ⟨rfl, H2, ho1⟩; have hlook := beg_look H2.rd HF.out HK.out HS.out HB.out; have hc2 := bx_cells H2.rd; have H3 := Lib.hid H2; clear H2 ho1)
    all_goals go_wp2_with (go_at_call 122; refine (k_cases HONE2.out HD.out H3.out hlen HSE.out HR0.out).mono ?_; rintro e w2 ⟨v1, rfl, hv1, H4, ho1⟩; obtain ⟨x0, x1, x2, x3, x4, x5, x6, x7, x8, x9, hx9, _⟩ := hv1.exs; subst hx9; have hb4 := H4.res hR0; obtain ⟨_, _, _, _, _, _⟩ := six_cells hb4; obtain ⟨_, _, _, _, _, _⟩ := six_frozen hb4; clear hb4; have HV := Lib.hid hv1; have H4 := Lib.hid H4; clear ho1 hv1)
    all_goals (refine bodyPost_ret (v := .agg #[.int .i64 x0, .int .i64 x1, .string (strB x3), .int .i64 x2, .slice x4 x6 x8, .slice x5 x7 x9]) (by simp only [results, Try.results105]; go_simp <;> rfl) rfl ?_)
    all_goals (refine tells H0.out H4.out (by repeat (first | with_reducible exact Nb.refl _ _ | with_reducible refine Nb.set ?_ _ _)) rfl ?_)
    all_goals exact HV.out
  rw [if_neg h6, if_neg h7, if_neg h9, if_neg h10] at hR
  have HR0 := Lib.hid hR
  have e6 : ((b : Int) == 6) = false := by simp; omega
  have e7 : ((b : Int) == 7) = false := by simp; omega
  have e9 : ((b : Int) == 9) = false := by simp; omega
  have e10 : ((b : Int) == 10) = false := by simp; omega
  clear hR hbs h6 h7 h9 h10
  go_enter Try.func105, Try.ntmps105
  go_wp2_with fail
  go_region_with (go_at_call 98; (with_reducible refine (k_next (Car.drew H1.out) HK.out HS.out).mono ?_); rintro e w1 ⟨rfl, H2, ho1⟩; have hlook := beg_look H2.rd HF.out HK.out HS.out HB.out; have hc2 := bx_cells H2.rd; have H3 := Lib.hid H2; clear H2 ho1)
  all_goals go_wp2_with (go_at_call 123; refine (k_app HONE2.out HD.out H3.out hlen HR0.out).mono ?_; rintro e w2 ⟨v1, rfl, hv1, H4, ho1⟩; obtain ⟨x0, x1, x2, x3, x4, x5, x6, x7, x8, x9, hx9, _⟩ := hv1.exs; subst hx9; have hb4 := H4.res hR0; obtain ⟨_, _, _, _, _, _⟩ := six_cells hb4; obtain ⟨_, _, _, _, _, _⟩ := six_frozen hb4; clear hb4; have HV := Lib.hid hv1; have H4 := Lib.hid H4; clear ho1 hv1)
  all_goals (refine bodyPost_ret (v := .agg #[.int .i64 x0, .int .i64 x1, .string (strB x3), .int .i64 x2, .slice x4 x6 x8, .slice x5 x7 x9]) (by simp only [results, Try.results105]; go_simp <;> rfl) rfl ?_)
  all_goals (refine tells H0.out H4.out (by repeat (first | with_reducible exact Nb.refl _ _ | with_reducible refine Nb.set ?_ _ _)) rfl ?_)
  all_goals exact HV.out

theorem k_expr (c : Cx) : ∀ (n : Nat) (W0 W : World) (τ : PS), Car c W0 W τ → τ.ts.length < n → Calls Try.prog 105 #[.pointer (some ⟨c.R, 0, none⟩)] W (Tells c W0 W exC (exprF c.En n τ))
  | 0, _, _, _, _, h => absurd h (Nat.not_lt_zero _)
  | n + 1, W0, W, τ, h, hl => k_exprStep (k_expr c n) (exprF_len c.En n) h (Nat.le_of_lt_succ hl) rfl
theorem k_typ (c : Cx) : ∀ (n : Nat) (W0 W : World) (τ : PS), Car c W0 W τ → τ.ts.length < n → Calls Try.prog 138 #[.pointer (some ⟨c.R, 0, none⟩)] W (Tells c W0 W tyC (typF c.En c.vs n τ))
  | 0, _, _, _, _, h => absurd h (Nat.not_lt_zero _)
  | n + 1, W0, W, τ, h, hl => k_typStep (k_typ c n) (typF_len c.En c.vs n) h (Nat.le_of_lt_succ hl) rfl

end Go.Proofs.Ytccilgemfkdmkaa
