/- The document's parser: atype, typ. -/
import Derived.Test.YtgkeblpjmfdhkaaYtupTM
import Derived.Test.YtgkeblpjmfdhkaaZDM
import Derived.Test.YtgkeblpjmfdhkaaYgfM
namespace Go.Proofs.Ytgkeblpjmfdhkaa
open Go.RowKit Go.Maps
set_option linter.unusedVariables false
set_option linter.unusedSimpArgs false

theorem c_atype {c : Px} {n : Nat} {T : PS → Ty × PS} {vs : List By} {a : Option Addr} {cp : Nat} (HONE : ∀ (W0 W : World) (τ : PS), Cay c W0 W τ → VY c W a cp vs → τ.ts.length < n → Calls Try.prog 149 #[.pointer (some ⟨c.R, 0, none⟩), .slice a vs.length cp] W (TellsY c W0 W tyC (T τ))) (hdec : Dec T)
    {W0 W : World} {σ : PS} (h : Cay c W0 W σ) (hV : VY c W a cp vs) (hlen : σ.ts.length ≤ n) {R : Ty × PS} (hR : atomTypeF c.En vs T σ = R) :
    Calls Try.prog 103 #[.pointer (some ⟨c.R, 0, none⟩), .slice a vs.length cp] W (TellsY c W0 W tyC R) := by
  unfold atomTypeF at hR
  cases h1 : σ.sees sName with
  | true => rw [if_pos h1] at hR; exact c_atype_name h hV h1 hR
  | false =>
    rw [if_neg (by rw [h1]; decide)] at hR
    cases h2 : σ.sees sCon with
    | true => rw [if_pos h2] at hR; exact c_atype_con h hV h1 h2 hR
    | false =>
      rw [if_neg (by rw [h2]; decide)] at hR
      cases h3 : σ.sees (sS tLpar) with
      | true => rw [if_pos h3] at hR; exact c_atype_tup HONE hdec h hV hlen h3 hR
      | false =>
        rw [if_neg (by rw [h3]; decide)] at hR
        exact c_atype_no h hV (by unfold PS.seesType; simp [h1, h2, h3]) hR

set_option maxRecDepth 100000 in
set_option maxHeartbeats 8000000 in
theorem c_typ_no {c : Px} {n : Nat} {T : PS → Ty × PS} {vs : List By} {a : Option Addr} {cp : Nat} (HONE : ∀ (W0 W : World) (τ : PS), Cay c W0 W τ → VY c W a cp vs → τ.ts.length < n → Calls Try.prog 149 #[.pointer (some ⟨c.R, 0, none⟩), .slice a vs.length cp] W (TellsY c W0 W tyC (T τ))) (hdec : Dec T)
    {W0 W : World} {σ : PS} (h : Cay c W0 W σ) (hV : VY c W a cp vs) (hlen : σ.ts.length ≤ n) (hno : σ.sees sCon = false) {R : Ty × PS} (hR : typStep c.En vs T σ = R) :
    Calls Try.prog 149 #[.pointer (some ⟨c.R, 0, none⟩), .slice a vs.length cp] W (TellsY c W0 W tyC R) := by
  obtain ⟨i0, hi0, hz0, hz1, hz2⟩ := info_parts Try.zinfoT
  have hR0 := h.rd.lt
  have hshort := h.rd.short
  have hlenc := h.rd.len
  obtain ⟨n0, hn0⟩ : ∃ n0, vs.length = n0 := ⟨_, rfl⟩
  have HN0 := Lib.hid hn0
  have H0 := Lib.hid h
  have HONE2 := Lib.hid HONE
  have HDC := Lib.hid hdec
  have HR := Lib.hid hR
  have H1 := Lib.hid (h.begin (.cells #[.int .i64 0, .int .i64 0, .string ⟨#[]⟩, .slice none 0 0] 120))
  have HV := Lib.hid (hV.under ((Below.refl _ W).alloc (Nat.le_refl _) (.cells #[.int .i64 0, .int .i64 0, .string ⟨#[]⟩, .slice none 0 0] 120)))
  have hR1 : c.R < (W.alloc (.cells #[.int .i64 0, .int .i64 0, .string ⟨#[]⟩, .slice none 0 0] 120)).heap.size := by simp; omega
  have hWs : (W.alloc (.cells #[.int .i64 0, .int .i64 0, .string ⟨#[]⟩, .slice none 0 0] 120)).heap.size = W.heap.size + 1 := by simp
  obtain ⟨A, hA⟩ : ∃ A, atomTypeF c.En vs T σ = A := ⟨_, rfl⟩
  have hAl : A.2.ts.length ≤ n := by rw [← hA]; exact Nat.le_trans (atomTypeF_len hdec σ) hlen
  have HLT : Hid (leftTypeF c.En vs T σ = A) := by show _ = _; unfold leftTypeF; rw [if_neg (by rw [hno]; decide), hA]
  have HA := Lib.hid hA
  have HS := Lib.hid hno
  rw [hn0]
  clear h hR HONE hdec hV hno hA hn0
  go_enter Try.func149, Try.ntmps149
  go_wp2_with (first
    | (go_at_call 50; refine (c_peek H1.out sCon askCon rfl rfl HS.out).mono ?_; clear H1; rintro e w1 ⟨rfl, H1, ho1⟩; clear ho1; replace H1 := Lib.hid H1)
    | (go_at_call 103; rw [← HN0.out]; refine (c_atype HONE2.out HDC.out H1.out (HV.out.out H1.out.out) hlen HA.out).mono ?_; clear H1; rintro e w2 ⟨v1, x1, rfl, hv1, HX, H1, ho1⟩; replace HX := Lib.hid HX; obtain ⟨z0, z1, z2, z3, z4, z5, hz9⟩ := hv1.tys; subst hz9; have hB3l := H1.size; have HB3 := Lib.hid (Box.new w2 120 [.int .i64 z0, .int .i64 z1, .string (strB z2), .slice z3 z4 z5]); have HVx := Lib.hid (hv1.under ((Below.refl _ w2).alloc (Nat.le_refl _) (.cells #[.int .i64 z0, .int .i64 z1, .string (strB z2), .slice z3 z4 z5] 120))); clear ho1 hv1; replace H1 := Lib.hid (H1.alloc (.cells #[.int .i64 z0, .int .i64 z1, .string (strB z2), .slice z3 z4 z5] 120)); rw [HN0.out]))
  obtain ⟨Wr, hW1⟩ : ∃ Wr, W.alloc (.cells #[.int .i64 0, .int .i64 0, .string ⟨#[]⟩, .slice none 0 0] 120) = Wr := ⟨_, rfl⟩
  rw [hW1] at H1 HV hR1 hWs HVx hB3l
  have HW1 := Lib.hid hW1
  clear hW1
  obtain ⟨lx, τ⟩ := A
  dsimp only at HX hAl H1
  go_loopg [] 0 (fun gn wr => wr = w2.alloc (.cells #[.int .i64 z0, .int .i64 z1, .string (strB z2), .slice z3 z4 z5] 120))
  case atStart => rfl
  case round =>
    subst hrel
    cases hs1 : τ.sees (sS tArrow) with
    | false =>
      have HSK : Hid (τ.skip (sS tArrow) = (false, τ)) := by show _ = _; unfold PS.skip; rw [if_neg (by rw [hs1]; decide)]
      have HR9 : Hid (R = (lx, τ)) := by show _ = _; rw [← HR.out]; unfold typStep; rw [HLT.out, if_neg (by rw [hs1]; decide)]
      clear hs1
      go_wp2_with (first | (go_at_call 55; refine (c_try H1.out tArrow (askS (by decide) (by decide)) rfl HSK.out).mono ?_; clear H1; rintro e w3 ⟨rfl, H1, ho1⟩; replace HVx := Lib.hid (stay ho1 hR1 HVx.out); replace HB3 := Lib.hid (ho1.box HB3.out (show ¬ (_ = c.R) by omega)); have hb4 := H1.box (HW1.out ▸ Box.new W 120 [.int .i64 0, .int .i64 0, .string ⟨#[]⟩, .slice none 0 0]) (show ¬ (_ = c.R) by omega); obtain ⟨_, _, _, _⟩ := four_cells hb4; obtain ⟨_, _, _, _⟩ := four_frozen hb4; have hWlt := hb4.lt; clear hb4; obtain ⟨_, _, _, _⟩ := four_cells HB3.out; have hBlt := HB3.out.lt; clear ho1; replace H1 := Lib.hid H1))
      refine bodyPost_ret (v := .agg #[.int .i64 z0, .int .i64 z1, .string (strB z2), .slice z3 z4 z5]) (by simp only [results, Try.results149]; go_simp <;> rfl) rfl ?_
      refine tellsY (o := (.cells #[.int .i64 0, .int .i64 0, .string ⟨#[]⟩, .slice none 0 0] 120)) H0.out (HW1.out ▸ H1.out) (by repeat (first | with_reducible exact Nb.refl _ _ | with_reducible refine Nb.set ?_ _ _)) (by rw [HR9.out]) (x1) (fun h => by rw [HR9.out] at h ⊢; exact HX.out h) ?_
      exact HW1.out ▸ HVx.out
    | true =>
      have HSK : Hid (τ.skip (sS tArrow) = (true, τ.tail)) := by show _ = _; unfold PS.skip; rw [if_pos hs1]
      have hp := sees_pos hs1 (sS_ne _)
      have HXL : Hid (x1 = lx) := by
        refine HX.out ?_
        obtain ⟨i1, _, _, _, hemp⟩ := H1.out.rd.box
        cases e : τ.st with
        | false => rfl
        | true => have := hemp e; rw [this] at hp; simp at hp
      have htn : τ.tail.ts.length < n := by rw [tail_len]; omega
      have HR9 : Hid (R = (.mk 2 0 tArrow [lx, (T τ.tail).1], (T τ.tail).2)) := by show _ = _; rw [← HR.out]; unfold typStep; rw [HLT.out, if_pos hs1]
      clear hs1 hp
      go_wp2_with (first | (go_at_call 55; refine (c_try H1.out tArrow (askS (by decide) (by decide)) rfl HSK.out).mono ?_; clear H1; rintro e w3 ⟨rfl, H1, ho1⟩; replace HVx := Lib.hid (stay ho1 hR1 HVx.out); replace HB3 := Lib.hid (ho1.box HB3.out (show ¬ (_ = c.R) by omega)); have hb4 := H1.box (HW1.out ▸ Box.new W 120 [.int .i64 0, .int .i64 0, .string ⟨#[]⟩, .slice none 0 0]) (show ¬ (_ = c.R) by omega); obtain ⟨_, _, _, _⟩ := four_cells hb4; obtain ⟨_, _, _, _⟩ := four_frozen hb4; have hWlt := hb4.lt; clear hb4; obtain ⟨_, _, _, _⟩ := four_cells HB3.out; have hBlt := HB3.out.lt; clear ho1; replace H1 := Lib.hid H1))
      have HT : Hid (Calls Try.prog 149 #[.pointer (some ⟨c.R, 0, none⟩), .slice a n0 cp] w3.drew (TellsY c Wr w3.drew tyC (T τ.tail))) := by
        have hdo : Out (fun b => b = c.R) w3 w3.drew := ⟨rfl, rfl, rfl, Nat.le_refl _, fun _ _ _ => rfl⟩
        rw [← HN0.out]
        exact HONE2.out _ _ τ.tail H1.out.drew ((HV.out.out H1.out.out).out hdo) htn
      go_region_with (go_at_call 149; (with_reducible refine (HT.out).mono ?_); rintro e w4 ⟨v1, xq, rfl, hv2, hx2, H4, ho1⟩; obtain ⟨y0, y1, y2, y3, y4, y5, hy9⟩ := hv2.tys; subst hy9; have HV4 := Lib.hid (stay ho1 hR1 HVx.out.drew); have HB4 := Lib.hid (ho1.box (Box.drew HB3.out) (show ¬ (_ = c.R) by omega)); have HV2 := Lib.hid hv2; have HX2 := Lib.hid hx2; have hb4 := H4.box (HW1.out ▸ Box.new W 120 [.int .i64 0, .int .i64 0, .string ⟨#[]⟩, .slice none 0 0]) (show ¬ (_ = c.R) by omega); obtain ⟨_, _, _, _⟩ := four_cells hb4; obtain ⟨_, _, _, _⟩ := four_frozen hb4; have hWlt := hb4.lt; clear hb4; obtain ⟨_, _, _, _⟩ := four_cells HB4.out; have hBlt := HB4.out.lt; clear ho1 hv2 hx2; replace H4 := Lib.hid H4)
      all_goals go_wp2_with fail
      all_goals (refine bodyPost_ret (v := .agg #[.int .i64 2, .int .i64 0, .string ⟨#[45, 62]⟩, .slice (some ⟨w4.heap.size, 0, none⟩) 2 2]) (by simp only [results, Try.results149]; go_simp <;> rfl) rfl ?_)
      all_goals (have hk := InC.two (k := 4) (t := 120) (us := [.int .i64 z0, .int .i64 z1, .string (strB z2), .slice z3 z4 z5]) (vs := [.int .i64 y0, .int .i64 y1, .string (strB y2), .slice y3 y4 y5]) HV4.out HV2.out (by have := H4.out.size; exact this) (tyC_len _) (tyC_len _) rfl)
      all_goals (refine tellsY (o := (.cells #[.int .i64 0, .int .i64 0, .string ⟨#[]⟩, .slice none 0 0] 120)) H0.out (HW1.out ▸ H4.out.alloc (.cells #[.int .i64 z0, .int .i64 z1, .string (strB z2), .slice z3 z4 z5, .int .i64 y0, .int .i64 y1, .string (strB y2), .slice y3 y4 y5] 120)) (Nb.both (by repeat (first | with_reducible exact Nb.refl _ _ | with_reducible refine Nb.set ?_ _ _)) (by simp) _) (by rw [HR9.out]) (.mk 2 0 tArrow [x1, xq]) (fun h => by rw [HR9.out] at h ⊢; rw [HXL.out, HX2.out h]) ?_)
      all_goals (refine HW1.out ▸ IsV.of_ty (s := tArrow) (kids := [x1, xq]) ?_; simpa [tysC] using hk)

end Go.Proofs.Ytgkeblpjmfdhkaa
