/- The document's parser: typ that begins with a Con. -/
import Derived.Test.YtgkeblpjmfdhkaaYtypaM
import Derived.Test.YtgkeblpjmfdhkaaZGM
import Derived.Deep.RegionLaw
namespace Go.Proofs.Ytgkeblpjmfdhkaa
open Go.RowKit Go.Maps
set_option linter.unusedVariables false
set_option linter.unusedSimpArgs false

set_option maxRecDepth 100000 in
set_option maxHeartbeats 8000000 in
theorem c_typ_con {c : Px} {n : Nat} {T : PS → Ty × PS} {vs : List By} {a : Option Addr} {cp : Nat} (HONE : ∀ (W0 W : World) (τ : PS), Cay c W0 W τ → VY c W a cp vs → τ.ts.length < n → Calls Try.prog 149 #[.pointer (some ⟨c.R, 0, none⟩), .slice a vs.length cp] W (TellsY c W0 W tyC (T τ))) (hdec : Dec T)
    {W0 W : World} {σ : PS} (h : Cay c W0 W σ) (hV : VY c W a cp vs) (hlen : σ.ts.length ≤ n) (hsee : σ.sees sCon = true) {R : Ty × PS} (hR : typStep c.En vs T σ = R) :
    Calls Try.prog 149 #[.pointer (some ⟨c.R, 0, none⟩), .slice a vs.length cp] W (TellsY c W0 W tyC R) := by
  obtain ⟨i0, hi0, hz0, hz1, hz2⟩ := info_parts Try.zinfoT
  have hR0 := h.rd.lt
  have hshort := h.rd.short
  have hlenc := h.rd.len
  obtain ⟨n0, hn0⟩ : ∃ n0, vs.length = n0 := ⟨_, rfl⟩
  have HN0 := Lib.hid hn0
  have H0 := Lib.hid h
  have HONE2 := Lib.hid HONE
  have HDC := Lib.hid hdec
  have HR := Lib.hid hR
  have H1 := Lib.hid (h.begin (.cells #[.int .i64 0, .int .i64 0, .string ⟨#[]⟩, .slice none 0 0] 120))
  have HV := Lib.hid (hV.under ((Below.refl _ W).alloc (Nat.le_refl _) (.cells #[.int .i64 0, .int .i64 0, .string ⟨#[]⟩, .slice none 0 0] 120)))
  have hR1 : c.R < (W.alloc (.cells #[.int .i64 0, .int .i64 0, .string ⟨#[]⟩, .slice none 0 0] 120)).heap.size := by simp; omega
  have hWs : (W.alloc (.cells #[.int .i64 0, .int .i64 0, .string ⟨#[]⟩, .slice none 0 0] 120)).heap.size = W.heap.size + 1 := by simp
  obtain ⟨t, r, hts, hst, hk⟩ := sees_head hsee (by decide)
  have hno : σ.sees sName = false := by
    have h1 : σ.next = sCon := of_decide_eq_true hsee
    unfold PS.sees; rw [h1]; decide
  obtain ⟨s, hs0⟩ : ∃ s, t.s = s := ⟨_, rfl⟩
  have HA : Hid (((σ.take c.En sCon).1.s, (σ.take c.En sCon).2) = (s, σ.tail)) := by show _ = _; rw [tail_take hsee]; unfold PS.head; rw [hts, ← hs0]; rfl
  obtain ⟨Q, hQ⟩ : ∃ Q, atomTypesF c.En vs T σ.tail = Q := ⟨_, rfl⟩
  have HLT0 : Hid (leftTypeF c.En vs T σ = (.mk 2 0 s Q.1, Q.2)) := by
    show _ = _
    have h1 := congrArg Prod.fst HA.out
    have h2 := congrArg Prod.snd HA.out
    dsimp only at h1 h2
    unfold leftTypeF; rw [if_pos hsee, h1, h2, hQ]
  obtain ⟨τ0, hτ0⟩ : ∃ τ0, σ.tail = τ0 := ⟨_, rfl⟩
  have HQ0 : Hid (atomTypesL c.En vs T τ0.ts.length [] τ0 = Q) := by show _ = _; rw [← hτ0]; exact hQ
  have h6 : τ0.ts.length ≤ 65536 := by rw [← hτ0, tail_len]; omega
  have h7 : τ0.ts.length ≤ n := by rw [← hτ0, tail_len]; omega
  have HS0 := Lib.hid hsee
  have HNO := Lib.hid hno
  rw [hτ0] at HA
  rw [hn0]
  clear h hR HONE hdec hV hno hn0 hsee hts hst hk hs0 hQ hτ0
  go_enter Try.func149, Try.ntmps149
  go_wp2_with (first
    | (go_at_call 50; refine (c_peek H1.out sCon askCon rfl rfl HS0.out).mono ?_; clear H1; rintro e w1 ⟨rfl, H1, ho1⟩; clear ho1; replace H1 := Lib.hid H1)
    | (go_at_call 103; rw [← HN0.out]; refine (c_atype_conX H1.out (HV.out.out H1.out.out) HNO.out HS0.out HA.out).mono ?_; clear H1; rintro e w2 ⟨rfl, H1, ho1⟩; have hB3l := H1.size; clear ho1; have hR2 := H1.rd.lt; replace H1 := Lib.hid (H1.alloc (.cells #[.int .i64 2, .int .i64 0, .string (strB s), .slice none 0 0] 120)); rw [HN0.out]))
  obtain ⟨B3, hB3⟩ : ∃ B3, w2.heap.size = B3 := ⟨_, rfl⟩
  have HG := Lib.hid (GF.start (w := w2) (t := 120) (pre := [.int .i64 2, .int .i64 0, .string (strB s)]) (post := []) (e := 120) (k := 4) hB3 [.int .i64 2, .int .i64 0, .string (strB s), .slice none 0 0] rfl)
  obtain ⟨V1, hV1⟩ : ∃ V1, w2.alloc (.cells #[.int .i64 2, .int .i64 0, .string (strB s), .slice none 0 0] 120) = V1 := ⟨_, rfl⟩
  replace HG : Hid (GF V1 B3 120 [.int .i64 2, .int .i64 0, .string (strB s)] [] 120 4 V1 (.slice none 0 0) 0 [] []) := hV1 ▸ HG
  rw [hV1] at H1 ⊢
  rw [hB3] at hB3l hR2 ⊢
  clear hV1 hB3
  obtain ⟨Wr, hW1⟩ : ∃ Wr, W.alloc (.cells #[.int .i64 0, .int .i64 0, .string ⟨#[]⟩, .slice none 0 0] 120) = Wr := ⟨_, rfl⟩
  rw [hW1] at H1 HV hR1 hWs hB3l
  have HW1 := Lib.hid hW1
  clear hW1
  have hB3R : c.R < B3 := hR2
  go_loopg [] (τ0.ts.length) (fun gn wr => ∃ (l dl : List Ty) (τ : PS) (v : Value) (us : List Value) (f : Nat), Hid (Cay c Wr wr τ) ∧ Hid (GF V1 B3 120 [.int .i64 2, .int .i64 0, .string (strB s)] [] 120 4 wr v dl.length (dl.flatMap tyC) us) ∧ Hid (atomTypesL c.En vs T f l τ = Q) ∧ Hid (τ.st = false → dl = l) ∧ gn = τ.ts.length ∧ τ.ts.length ≤ f ∧ dl.length + τ.ts.length ≤ 65536 ∧ τ.ts.length ≤ n)
  case atStart => exact ⟨[], [], τ0, _, [], τ0.ts.length, H1, HG, HQ0, fun _ => rfl, rfl, Nat.le_refl _, by simpa using h6, h7⟩
  case round =>
    obtain ⟨l, dl, τ, v, us, f, H1, HG, HL, HD, rfl, hf, hl, hn⟩ := hrel
    clear HQ0
    obtain ⟨va, vc, hv⟩ := HG.out.shape
    subst hv
    cases hs : τ.seesType with
    | true =>
      obtain ⟨f', hf1, hf2, hf3⟩ := atomTypesL_go (En := c.En) (vs := vs) (l := l) hf hs HDC.out
      have HL2 : Hid (atomTypesL c.En vs T f' (l ++ [(atomTypeF c.En vs T τ).1]) (atomTypeF c.En vs T τ).2 = Q) := by show _ = _; rw [← hf1]; exact HL.out
      have hon : (atomTypeF c.En vs T τ).2.ts.length ≤ n := by omega
      have HDL : Hid (dl = l) := by
        refine HD.out ?_
        obtain ⟨i1, _, _, _, hemp⟩ := H1.out.rd.box
        cases e : τ.st with
        | false => rfl
        | true => have := hemp e; rw [this] at hf3; simp at hf3
      have HS := Lib.hid hs
      clear hs hf1 HL HD
      go_wp2_with (go_at_call 102; refine (c_atypic H1.out HS.out).mono ?_; clear H1; rintro e w3 ⟨rfl, H1, ho1⟩; replace HG := Lib.hid (HG.out.out ho1 hB3R); clear ho1; replace H1 := Lib.hid H1)
      have HAK : Hid (Calls Try.prog 103 #[.pointer (some ⟨c.R, 0, none⟩), .slice a n0 cp] w3.drew (TellsY c w3 w3.drew tyC (atomTypeF c.En vs T τ))) := by
        have hdo : Out (fun b => b = c.R) w3 w3.drew := ⟨rfl, rfl, rfl, Nat.le_refl _, fun _ _ _ => rfl⟩
        rw [← HN0.out]
        exact c_atype HONE2.out HDC.out ⟨H1.out.rd.drew, hdo, H1.out.rd.lt⟩ ((HV.out.out H1.out.out).out hdo) hn rfl
      have HLW := Lib.hid HG.out.gr.lt
      have hB3w := HG.out.box.lt
      have hle3 := HG.out.le
      have hR3 := H1.out.rd.lt
      have hbq := (show Box _ _ _ [.int .i64 2, .int .i64 0, .string (strB s), .slice va dl.length vc] from HG.out.box); obtain ⟨_, _, _, _⟩ := four_cells hbq; obtain ⟨_, _, _, _⟩ := four_frozen hbq
      clear hbq
      have Q1 : Hid (dl.length + 1 ≤ maxLen) := by unfold maxLen; show _ ≤ _; omega
      have Q2 : Hid ((dl.length + 1) * 56 ≤ 140737488355328) := by show _ ≤ _; omega
      go_region_law (first
        | (refine step_append_lies _ rfl _ _ 57 rfl (B3 + 1) 120 i0 (.agg #[.int .i64 0, .int .i64 0, .string ⟨#[]⟩, .slice none 0 0]) 4 56 Try.underlying57 hi0 hz0 hz1 hz2 rfl (by decide) (.slice va dl.length vc) dl.length us rfl (HR4.out.alloc _) ⟨w4.heap.size, 0, none⟩ 1 1 [.int .i64 z0, .int .i64 z1, .string (strB z2), .slice z3 z4 z5] rfl rfl (news_at (cs := [.int .i64 z0, .int .i64 z1, .string (strB z2), .slice z3 z4 z5]) rfl) (by simp [Value.oneCell']) (by decide) Q1.out Q2.out Q3.out _ rfl ?_; intro g cap w9 hown9 hgrow hat hlt9; have z9 := (HG4.out.box.alloc (.cells #[.int .i64 z0, .int .i64 z1, .string (strB z2), .slice z3 z4 z5] 120)).grown hgrow HnB.out; have hbq := (show Box _ _ _ [.int .i64 2, .int .i64 0, .string (strB s), .slice va dl.length vc] from z9); obtain ⟨_, _, _, _⟩ := four_cells hbq; obtain ⟨_, _, _, _⟩ := four_frozen hbq; have hz9 := z9.lt; have HOWN := Lib.hid hown9; have HGR := Lib.hid hgrow; rw [World.size_alloc] at hat; have HAT := Lib.hid hat; clear z9 hbq hown9 hgrow hat)
        | (refine step_plainz rfl ?_; go_simp; go_at_call 103; (with_reducible refine (HAK.out).mono ?_); rintro e w4 ⟨v, x1, rfl, hv, hx1, hc4, ho1⟩; obtain ⟨z0, z1, z2, z3, z4, z5, hz9⟩ := hv.tys; subst hz9; have HG4 := Lib.hid (HG.out.out ho1.drew2 hB3R); have HC4 : Hid (Cay c Wr w4 (atomTypeF c.En vs T τ).2) := ⟨hc4.rd, H1.out.out.trans ho1.drew2, H1.out.lt⟩; have HD4 := Lib.hid hv.cells; have HX1 := Lib.hid hx1; have hbq := (show Box _ _ _ [.int .i64 2, .int .i64 0, .string (strB s), .slice va dl.length vc] from HG4.out.box); obtain ⟨_, _, _, _⟩ := four_cells hbq; obtain ⟨_, _, _, _⟩ := four_frozen hbq; clear hbq; have hB3w4 := HG4.out.box.lt; have HR4 : Hid (w4.ownsRow (B3 + 1) 120 4 (.slice va dl.length vc) dl.length us) := HG4.out.gr.1; have Q3 : Hid (B3 + 1 ≤ (w4.alloc (.cells #[.int .i64 z0, .int .i64 z1, .string (strB z2), .slice z3 z4 z5] 120)).heap.size) := (by show B3 + 1 ≤ _; rw [World.size_alloc]; omega); have HnB : Hid (some B3 ≠ (Value.slice va dl.length vc).ownBlock) := (fun q => by have := (HLW.out B3 q.symm).1; omega); clear hv hc4 hx1))
      all_goals (have HG9 := Lib.hid (HG4.out.push (W2 := w3) (i := 3) (ds := tyC x1) (vs := [.int .i64 z0, .int .i64 z1, .string (strB z2), .slice z3 z4 z5]) rfl (by simpa [Value.cells] using HD4.out) (fun q hq => (HLW.out q hq).2) hle3 HOWN.out HGR.out HAT.out))
      all_goals (have HC9 := Lib.hid (((HC4.out.alloc _).grow HGR.out (fun q hq => by have := (HLW.out q hq).1; omega)).put hB3l 3 (.slice (some ⟨g, 0, none⟩) (dl.length + 1) cap)))
      all_goals (clear HAT HGR HOWN HD4 HC4 HG4 HAK HR4)
      all_goals go_wp2_with fail
      all_goals go_roundg (atomTypeF c.En vs T τ).2.ts.length
      all_goals first
        | exact hf3
        | exact ⟨l ++ [(atomTypeF c.En vs T τ).1], dl ++ [x1], (atomTypeF c.En vs T τ).2, _, _, f', HC9, by simpa [List.flatMap_append] using HG9, HL2, fun h => by rw [HDL.out, HX1.out h], rfl, hf2, by simp; omega, hon⟩
    | false =>
      have HE : Hid (Q = (l, τ)) := by show _ = _; rw [← HL.out]; exact atomTypesL_end hs
      have HS := Lib.hid hs
      clear hs HL
      have HLT : Hid (leftTypeF c.En vs T σ = (.mk 2 0 s l, τ)) := by show _ = _; rw [HLT0.out, HE.out]
      have HX : Hid (τ.st = false → Ty.mk 2 0 s dl = .mk 2 0 s l) := fun h => by rw [HD.out h]
      have hdn := HG.out.done (W0 := Wr) hB3l (flatC_len tyC_len dl)
      have HVx : Hid (IsV (New Wr) wr (tyC (.mk 2 0 s dl)) (.agg #[.int .i64 2, .int .i64 0, .string (strB s), .slice va dl.length vc])) := IsV.of_ty (by rw [tysC_eq]; exact hdn)
      have HB3 : Hid (Box wr B3 120 [.int .i64 2, .int .i64 0, .string (strB s), .slice va dl.length vc]) := HG.out.box
      clear HD HE HLT0 hdn HG
      cases hs1 : τ.sees (sS tArrow) with
      | false =>
        have HSK : Hid (τ.skip (sS tArrow) = (false, τ)) := by show _ = _; unfold PS.skip; rw [if_neg (by rw [hs1]; decide)]
        have HR9 : Hid (R = (Ty.mk 2 0 s l, τ)) := by show _ = _; rw [← HR.out]; unfold typStep; rw [HLT.out, if_neg (by rw [hs1]; decide)]
        clear hs1
        go_wp2_with (first | (go_at_call 102; refine (c_atypic H1.out HS.out).mono ?_; clear H1; rintro e w3 ⟨rfl, H1, ho1⟩; replace HVx := Lib.hid (stay ho1 hR1 HVx.out); replace HB3 := Lib.hid (ho1.box HB3.out (show ¬ (_ = c.R) by omega)); clear ho1; replace H1 := Lib.hid H1) | (go_at_call 55; refine (c_try H1.out tArrow (askS (by decide) (by decide)) rfl HSK.out).mono ?_; clear H1; rintro e w3 ⟨rfl, H1, ho1⟩; replace HVx := Lib.hid (stay ho1 hR1 HVx.out); replace HB3 := Lib.hid (ho1.box HB3.out (show ¬ (_ = c.R) by omega)); have hb4 := H1.box (HW1.out ▸ Box.new W 120 [.int .i64 0, .int .i64 0, .string ⟨#[]⟩, .slice none 0 0]) (show ¬ (_ = c.R) by omega); obtain ⟨_, _, _, _⟩ := four_cells hb4; obtain ⟨_, _, _, _⟩ := four_frozen hb4; have hWlt := hb4.lt; clear hb4; obtain ⟨_, _, _, _⟩ := four_cells HB3.out; have hBlt := HB3.out.lt; clear ho1; replace H1 := Lib.hid H1))
        refine bodyPost_ret (v := .agg #[.int .i64 2, .int .i64 0, .string (strB s), .slice va dl.length vc]) (by simp only [results, Try.results149]; go_simp <;> rfl) rfl ?_
        refine tellsY (o := (.cells #[.int .i64 0, .int .i64 0, .string ⟨#[]⟩, .slice none 0 0] 120)) H0.out (HW1.out ▸ H1.out) (by repeat (first | with_reducible exact Nb.refl _ _ | with_reducible refine Nb.set ?_ _ _)) (by rw [HR9.out]) (Ty.mk 2 0 s dl) (fun h => by rw [HR9.out] at h ⊢; exact HX.out h) ?_
        exact HW1.out ▸ HVx.out
      | true =>
        have HSK : Hid (τ.skip (sS tArrow) = (true, τ.tail)) := by show _ = _; unfold PS.skip; rw [if_pos hs1]
        have hp := sees_pos hs1 (sS_ne _)
        have HXL : Hid (Ty.mk 2 0 s dl = Ty.mk 2 0 s l) := by
          refine HX.out ?_
          obtain ⟨i1, _, _, _, hemp⟩ := H1.out.rd.box
          cases e : τ.st with
          | false => rfl
          | true => have := hemp e; rw [this] at hp; simp at hp
        have htn : τ.tail.ts.length < n := by rw [tail_len]; omega
        have HR9 : Hid (R = (.mk 2 0 tArrow [Ty.mk 2 0 s l, (T τ.tail).1], (T τ.tail).2)) := by show _ = _; rw [← HR.out]; unfold typStep; rw [HLT.out, if_pos hs1]
        clear hs1 hp
        go_wp2_with (first | (go_at_call 102; refine (c_atypic H1.out HS.out).mono ?_; clear H1; rintro e w3 ⟨rfl, H1, ho1⟩; replace HVx := Lib.hid (stay ho1 hR1 HVx.out); replace HB3 := Lib.hid (ho1.box HB3.out (show ¬ (_ = c.R) by omega)); clear ho1; replace H1 := Lib.hid H1) | (go_at_call 55; refine (c_try H1.out tArrow (askS (by decide) (by decide)) rfl HSK.out).mono ?_; clear H1; rintro e w3 ⟨rfl, H1, ho1⟩; replace HVx := Lib.hid (stay ho1 hR1 HVx.out); replace HB3 := Lib.hid (ho1.box HB3.out (show ¬ (_ = c.R) by omega)); have hb4 := H1.box (HW1.out ▸ Box.new W 120 [.int .i64 0, .int .i64 0, .string ⟨#[]⟩, .slice none 0 0]) (show ¬ (_ = c.R) by omega); obtain ⟨_, _, _, _⟩ := four_cells hb4; obtain ⟨_, _, _, _⟩ := four_frozen hb4; have hWlt := hb4.lt; clear hb4; obtain ⟨_, _, _, _⟩ := four_cells HB3.out; have hBlt := HB3.out.lt; clear ho1; replace H1 := Lib.hid H1))
        have HT : Hid (Calls Try.prog 149 #[.pointer (some ⟨c.R, 0, none⟩), .slice a n0 cp] w3.drew (TellsY c Wr w3.drew tyC (T τ.tail))) := by
          have hdo : Out (fun b => b = c.R) w3 w3.drew := ⟨rfl, rfl, rfl, Nat.le_refl _, fun _ _ _ => rfl⟩
          rw [← HN0.out]
          exact HONE2.out _ _ τ.tail H1.out.drew ((HV.out.out H1.out.out).out hdo) htn
        go_region_with (go_at_call 149; (with_reducible refine (HT.out).mono ?_); rintro e w4 ⟨v1, xq, rfl, hv2, hx2, H4, ho1⟩; obtain ⟨y0, y1, y2, y3, y4, y5, hy9⟩ := hv2.tys; subst hy9; have HV4 := Lib.hid (stay ho1 hR1 HVx.out.drew); have HB4 := Lib.hid (ho1.box (Box.drew HB3.out) (show ¬ (_ = c.R) by omega)); have HV2 := Lib.hid hv2; have HX2 := Lib.hid hx2; have hb4 := H4.box (HW1.out ▸ Box.new W 120 [.int .i64 0, .int .i64 0, .string ⟨#[]⟩, .slice none 0 0]) (show ¬ (_ = c.R) by omega); obtain ⟨_, _, _, _⟩ := four_cells hb4; obtain ⟨_, _, _, _⟩ := four_frozen hb4; have hWlt := hb4.lt; clear hb4; obtain ⟨_, _, _, _⟩ := four_cells HB4.out; have hBlt := HB4.out.lt; clear ho1 hv2 hx2; replace H4 := Lib.hid H4)
        all_goals go_wp2_with fail
        all_goals (refine bodyPost_ret (v := .agg #[.int .i64 2, .int .i64 0, .string ⟨#[45, 62]⟩, .slice (some ⟨w4.heap.size, 0, none⟩) 2 2]) (by simp only [results, Try.results149]; go_simp <;> rfl) rfl ?_)
        all_goals (have hk := InC.two (k := 4) (t := 120) (us := [.int .i64 2, .int .i64 0, .string (strB s), .slice va dl.length vc]) (vs := [.int .i64 y0, .int .i64 y1, .string (strB y2), .slice y3 y4 y5]) HV4.out HV2.out (by have := H4.out.size; exact this) (tyC_len _) (tyC_len _) rfl)
        all_goals (refine tellsY (o := (.cells #[.int .i64 0, .int .i64 0, .string ⟨#[]⟩, .slice none 0 0] 120)) H0.out (HW1.out ▸ H4.out.alloc (.cells #[.int .i64 2, .int .i64 0, .string (strB s), .slice va dl.length vc, .int .i64 y0, .int .i64 y1, .string (strB y2), .slice y3 y4 y5] 120)) (Nb.both (by repeat (first | with_reducible exact Nb.refl _ _ | with_reducible refine Nb.set ?_ _ _)) (by simp) _) (by rw [HR9.out]) (.mk 2 0 tArrow [Ty.mk 2 0 s dl, xq]) (fun h => by rw [HR9.out] at h ⊢; rw [HXL.out, HX2.out h]) ?_)
        all_goals (refine HW1.out ▸ IsV.of_ty (s := tArrow) (kids := [Ty.mk 2 0 s dl, xq]) ?_; simpa [tysC] using hk)

theorem c_typStep {c : Px} {n : Nat} {T : PS → Ty × PS} {vs : List By} {a : Option Addr} {cp : Nat} (HONE : ∀ (W0 W : World) (τ : PS), Cay c W0 W τ → VY c W a cp vs → τ.ts.length < n → Calls Try.prog 149 #[.pointer (some ⟨c.R, 0, none⟩), .slice a vs.length cp] W (TellsY c W0 W tyC (T τ))) (hdec : Dec T)
    {W0 W : World} {σ : PS} (h : Cay c W0 W σ) (hV : VY c W a cp vs) (hlen : σ.ts.length ≤ n) {R : Ty × PS} (hR : typStep c.En vs T σ = R) :
    Calls Try.prog 149 #[.pointer (some ⟨c.R, 0, none⟩), .slice a vs.length cp] W (TellsY c W0 W tyC R) := by
  cases h1 : σ.sees sCon with
  | true => exact c_typ_con HONE hdec h hV hlen h1 hR
  | false => exact c_typ_no HONE hdec h hV hlen h1 hR
theorem c_typ (c : Px) (vs : List By) (a : Option Addr) (cp : Nat) : ∀ (n : Nat) (W0 W : World) (τ : PS), Cay c W0 W τ → VY c W a cp vs → τ.ts.length < n → Calls Try.prog 149 #[.pointer (some ⟨c.R, 0, none⟩), .slice a vs.length cp] W (TellsY c W0 W tyC (typF c.En vs n τ))
  | 0, _, _, _, _, _, h => absurd h (Nat.not_lt_zero _)
  | n + 1, W0, W, τ, hc, hv, hl => c_typStep (c_typ c vs a cp n) (typF_len c.En vs n) hc hv (Nat.le_of_lt_succ hl) rfl

end Go.Proofs.Ytgkeblpjmfdhkaa
