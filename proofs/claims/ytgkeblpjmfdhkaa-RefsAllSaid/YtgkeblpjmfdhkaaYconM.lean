/- The document's parser: con. -/
import Derived.Test.YtgkeblpjmfdhkaaYtypaM
import Derived.Test.YtgkeblpjmfdhkaaZGM
import Derived.Deep.RegionLaw
namespace Go.Proofs.Ytgkeblpjmfdhkaa
open Go.RowKit Go.Maps
set_option linter.unusedVariables false
set_option linter.unusedSimpArgs false

set_option maxRecDepth 100000 in
set_option maxHeartbeats 8000000 in
theorem c_con {c : Px} {n : Nat} {T : PS → Ty × PS} {vs : List By} {a : Option Addr} {cp : Nat} (HONE : ∀ (W0 W : World) (τ : PS), Cay c W0 W τ → VY c W a cp vs → τ.ts.length < n → Calls Try.prog 149 #[.pointer (some ⟨c.R, 0, none⟩), .slice a vs.length cp] W (TellsY c W0 W tyC (T τ))) (hdec : Dec T)
    {W0 W : World} {σ : PS} (h : Cay c W0 W σ) (hV : VY c W a cp vs) (hlen : σ.ts.length ≤ n) {R : Cn × PS} (hR : ((⟨(σ.take c.En sCon).1.s, ((σ.take c.En sCon).1.p : Int), (atomTypesF c.En vs T (σ.take c.En sCon).2).1⟩, (atomTypesF c.En vs T (σ.take c.En sCon).2).2) : Cn × PS) = R) :
    Calls Try.prog 54 #[.pointer (some ⟨c.R, 0, none⟩), .slice a vs.length cp] W (TellsY c W0 W cnC R) := by
  obtain ⟨i0, hi0, hz0, hz1, hz2⟩ := info_parts Try.zinfoT
  have hR0 := h.rd.lt
  have hshort := h.rd.short
  have hlenc := h.rd.len
  obtain ⟨n0, hn0⟩ : ∃ n0, vs.length = n0 := ⟨_, rfl⟩
  have HN0 := Lib.hid hn0
  have H0 := Lib.hid h
  have HONE2 := Lib.hid HONE
  have HDC := Lib.hid hdec
  have HR := Lib.hid hR
  have H1 := Lib.hid (h.begin (.cells #[.string ⟨#[]⟩, .int .i64 0, .slice none 0 0] 59))
  have HV := Lib.hid (hV.under ((Below.refl _ W).alloc (Nat.le_refl _) (.cells #[.string ⟨#[]⟩, .int .i64 0, .slice none 0 0] 59)))
  have hR1 : c.R < (W.alloc (.cells #[.string ⟨#[]⟩, .int .i64 0, .slice none 0 0] 59)).heap.size := by simp; omega
  have hWs : (W.alloc (.cells #[.string ⟨#[]⟩, .int .i64 0, .slice none 0 0] 59)).heap.size = W.heap.size + 1 := by simp
  obtain ⟨A, hA⟩ : ∃ A, σ.take c.En sCon = A := ⟨_, rfl⟩
  have HA := Lib.hid hA
  obtain ⟨Q, hQ⟩ : ∃ Q, atomTypesF c.En vs T A.2 = Q := ⟨_, rfl⟩
  have HR9 : Hid (R = (⟨A.1.s, (A.1.p : Int), Q.1⟩, Q.2)) := by show _ = _; rw [← hR, hA, hQ]
  have hAl : A.2.ts.length ≤ σ.ts.length := by rw [← hA]; exact take_len _ _ _
  obtain ⟨⟨ak, ap, nm, an⟩, τ0⟩ := A
  dsimp only at hQ HR9 hAl
  have HQ0 : Hid (atomTypesL c.En vs T τ0.ts.length [] τ0 = Q) := hQ
  have h6 : τ0.ts.length ≤ 65536 := by omega
  have h7 : τ0.ts.length ≤ n := by omega
  rw [hn0]
  clear h hR HONE hdec hV hn0 hA hQ HR
  go_enter Try.func54, Try.ntmps54
  go_wp2_with (go_at_call 51; refine (c_eat H1.out sCon askCon (by decide) rfl rfl HA.out).mono ?_; clear H1; rintro e w1 ⟨rfl, H1, ho1⟩; have hB3l := H1.size; have hR2 := H1.rd.lt; clear ho1; replace H1 := Lib.hid ((H1.alloc (.cells #[.int .i64 (ak : Int), .int .i64 (ap : Int), .string (strB nm), .int .i64 (an : Int)] 103)).alloc (.cells #[.string (strB nm), .int .i64 (ap : Int), .slice none 0 0] 59)))
  obtain ⟨w2, hw2⟩ : ∃ w2, w1.alloc (.cells #[.int .i64 (ak : Int), .int .i64 (ap : Int), .string (strB nm), .int .i64 (an : Int)] 103) = w2 := ⟨_, rfl⟩
  have hsz2 : w2.heap.size = w1.heap.size + 1 := by rw [← hw2]; simp
  rw [hw2] at H1 ⊢
  obtain ⟨B3, hB3⟩ : ∃ B3, w1.heap.size + 1 = B3 := ⟨_, rfl⟩
  have HG := Lib.hid (GF.start (w := w2) (t := 59) (pre := [.string (strB nm), .int .i64 (ap : Int)]) (post := []) (e := 120) (k := 4) (hsz2.trans hB3) [.string (strB nm), .int .i64 (ap : Int), .slice none 0 0] rfl)
  obtain ⟨V1, hV1⟩ : ∃ V1, w2.alloc (.cells #[.string (strB nm), .int .i64 (ap : Int), .slice none 0 0] 59) = V1 := ⟨_, rfl⟩
  replace HG : Hid (GF V1 B3 59 [.string (strB nm), .int .i64 (ap : Int)] [] 120 4 V1 (.slice none 0 0) 0 [] []) := hV1 ▸ HG
  rw [hV1] at H1 ⊢
  have hB3R : c.R < B3 := by omega
  replace hB3l : (W.alloc (.cells #[.string ⟨#[]⟩, .int .i64 0, .slice none 0 0] 59)).heap.size ≤ B3 := by omega
  rw [hB3]
  clear hV1 hB3 hsz2 hw2
  obtain ⟨Wr, hW1⟩ : ∃ Wr, W.alloc (.cells #[.string ⟨#[]⟩, .int .i64 0, .slice none 0 0] 59) = Wr := ⟨_, rfl⟩
  rw [hW1] at H1 HV hR1 hWs hB3l
  have HW1 := Lib.hid hW1
  clear hW1
  go_loopg [] (τ0.ts.length) (fun gn wr => ∃ (l dl : List Ty) (τ : PS) (v : Value) (us : List Value) (f : Nat), Hid (Cay c Wr wr τ) ∧ Hid (GF V1 B3 59 [.string (strB nm), .int .i64 (ap : Int)] [] 120 4 wr v dl.length (dl.flatMap tyC) us) ∧ Hid (atomTypesL c.En vs T f l τ = Q) ∧ Hid (τ.st = false → dl = l) ∧ gn = τ.ts.length ∧ τ.ts.length ≤ f ∧ dl.length + τ.ts.length ≤ 65536 ∧ τ.ts.length ≤ n)
  case atStart => exact ⟨[], [], τ0, _, [], τ0.ts.length, H1, HG, HQ0, fun _ => rfl, rfl, Nat.le_refl _, by simpa using h6, h7⟩
  case round =>
    obtain ⟨l, dl, τ, v, us, f, H1, HG, HL, HD, rfl, hf, hl, hn⟩ := hrel
    clear HQ0
    obtain ⟨va, vc, hv⟩ := HG.out.shape
    subst hv
    cases hs : τ.seesType with
    | true =>
      obtain ⟨f', hf1, hf2, hf3⟩ := atomTypesL_go (En := c.En) (vs := vs) (l := l) hf hs HDC.out
      have HL2 : Hid (atomTypesL c.En vs T f' (l ++ [(atomTypeF c.En vs T τ).1]) (atomTypeF c.En vs T τ).2 = Q) := by show _ = _; rw [← hf1]; exact HL.out
      have hon : (atomTypeF c.En vs T τ).2.ts.length ≤ n := by omega
      have HDL : Hid (dl = l) := by
        refine HD.out ?_
        obtain ⟨i1, _, _, _, hemp⟩ := H1.out.rd.box
        cases e : τ.st with
        | false => rfl
        | true => have := hemp e; rw [this] at hf3; simp at hf3
      have HS := Lib.hid hs
      clear hs hf1 HL HD
      go_wp2_with (go_at_call 102; refine (c_atypic H1.out HS.out).mono ?_; clear H1; rintro e w3 ⟨rfl, H1, ho1⟩; replace HG := Lib.hid (HG.out.out ho1 hB3R); clear ho1; replace H1 := Lib.hid H1)
      have HAK : Hid (Calls Try.prog 103 #[.pointer (some ⟨c.R, 0, none⟩), .slice a n0 cp] w3.drew (TellsY c w3 w3.drew tyC (atomTypeF c.En vs T τ))) := by
        have hdo : Out (fun b => b = c.R) w3 w3.drew := ⟨rfl, rfl, rfl, Nat.le_refl _, fun _ _ _ => rfl⟩
        rw [← HN0.out]
        exact c_atype HONE2.out HDC.out ⟨H1.out.rd.drew, hdo, H1.out.rd.lt⟩ ((HV.out.out H1.out.out).out hdo) hn rfl
      have HLW := Lib.hid HG.out.gr.lt
      have hB3w := HG.out.box.lt
      have hle3 := HG.out.le
      have hR3 := H1.out.rd.lt
      have hbq := (show Box _ _ _ [.string (strB nm), .int .i64 (ap : Int), .slice va dl.length vc] from HG.out.box); obtain ⟨_, _, _, _, _, _⟩ := hbq.three
      clear hbq
      have Q1 : Hid (dl.length + 1 ≤ maxLen) := by unfold maxLen; show _ ≤ _; omega
      have Q2 : Hid ((dl.length + 1) * 56 ≤ 140737488355328) := by show _ ≤ _; omega
      go_region_law (first
        | (refine step_append_lies _ rfl _ _ 57 rfl (B3 + 1) 120 i0 (.agg #[.int .i64 0, .int .i64 0, .string ⟨#[]⟩, .slice none 0 0]) 4 56 Try.underlying57 hi0 hz0 hz1 hz2 rfl (by decide) (.slice va dl.length vc) dl.length us rfl (HR4.out.alloc _) ⟨w4.heap.size, 0, none⟩ 1 1 [.int .i64 z0, .int .i64 z1, .string (strB z2), .slice z3 z4 z5] rfl rfl (news_at (cs := [.int .i64 z0, .int .i64 z1, .string (strB z2), .slice z3 z4 z5]) rfl) (by simp [Value.oneCell']) (by decide) Q1.out Q2.out Q3.out _ rfl ?_; intro g cap w9 hown9 hgrow hat hlt9; have z9 := (HG4.out.box.alloc (.cells #[.int .i64 z0, .int .i64 z1, .string (strB z2), .slice z3 z4 z5] 120)).grown hgrow HnB.out; have hbq := (show Box _ _ _ [.string (strB nm), .int .i64 (ap : Int), .slice va dl.length vc] from z9); obtain ⟨_, _, _, _, _, _⟩ := hbq.three; have hz9 := z9.lt; have HOWN := Lib.hid hown9; have HGR := Lib.hid hgrow; rw [World.size_alloc] at hat; have HAT := Lib.hid hat; clear z9 hbq hown9 hgrow hat)
        | (refine step_plainz rfl ?_; go_simp; go_at_call 103; (with_reducible refine (HAK.out).mono ?_); rintro e w4 ⟨v, x1, rfl, hv, hx1, hc4, ho1⟩; obtain ⟨z0, z1, z2, z3, z4, z5, hz9⟩ := hv.tys; subst hz9; have HG4 := Lib.hid (HG.out.out ho1.drew2 hB3R); have HC4 : Hid (Cay c Wr w4 (atomTypeF c.En vs T τ).2) := ⟨hc4.rd, H1.out.out.trans ho1.drew2, H1.out.lt⟩; have HD4 := Lib.hid hv.cells; have HX1 := Lib.hid hx1; have hbq := (show Box _ _ _ [.string (strB nm), .int .i64 (ap : Int), .slice va dl.length vc] from HG4.out.box); obtain ⟨_, _, _, _, _, _⟩ := hbq.three; clear hbq; have hB3w4 := HG4.out.box.lt; have HR4 : Hid (w4.ownsRow (B3 + 1) 120 4 (.slice va dl.length vc) dl.length us) := HG4.out.gr.1; have Q3 : Hid (B3 + 1 ≤ (w4.alloc (.cells #[.int .i64 z0, .int .i64 z1, .string (strB z2), .slice z3 z4 z5] 120)).heap.size) := (by show B3 + 1 ≤ _; rw [World.size_alloc]; omega); have HnB : Hid (some B3 ≠ (Value.slice va dl.length vc).ownBlock) := (fun q => by have := (HLW.out B3 q.symm).1; omega); clear hv hc4 hx1))
      all_goals (have HG9 := Lib.hid (HG4.out.push (W2 := w3) (i := 2) (ds := tyC x1) (vs := [.int .i64 z0, .int .i64 z1, .string (strB z2), .slice z3 z4 z5]) rfl (by simpa [Value.cells] using HD4.out) (fun q hq => (HLW.out q hq).2) hle3 HOWN.out HGR.out HAT.out))
      all_goals (have HC9 := Lib.hid (((HC4.out.alloc _).grow HGR.out (fun q hq => by have := (HLW.out q hq).1; omega)).put hB3l 2 (.slice (some ⟨g, 0, none⟩) (dl.length + 1) cap)))
      all_goals (clear HAT HGR HOWN HD4 HC4 HG4 HAK HR4)
      all_goals go_wp2_with fail
      all_goals go_roundg (atomTypeF c.En vs T τ).2.ts.length
      all_goals first
        | exact hf3
        | exact ⟨l ++ [(atomTypeF c.En vs T τ).1], dl ++ [x1], (atomTypeF c.En vs T τ).2, _, _, f', HC9, by simpa [List.flatMap_append] using HG9, HL2, fun h => by rw [HDL.out, HX1.out h], rfl, hf2, by simp; omega, hon⟩
    | false =>
      have HE : Hid (Q = (l, τ)) := by show _ = _; rw [← HL.out]; exact atomTypesL_end hs
      have HS := Lib.hid hs
      clear hs HL
      have HR8 : Hid (R = (⟨nm, (ap : Int), l⟩, τ)) := by show _ = _; rw [HR9.out, HE.out]
      have HX : Hid (τ.st = false → (⟨nm, (ap : Int), dl⟩ : Cn) = ⟨nm, (ap : Int), l⟩) := fun h => by rw [HD.out h]
      clear HD HE HR9
      go_wp2_with (go_at_call 102; refine (c_atypic H1.out HS.out).mono ?_; clear H1; rintro e w3 ⟨rfl, H1, ho1⟩; replace HG := Lib.hid (HG.out.out ho1 hB3R); clear ho1; have hbq := (show Box _ _ _ [.string (strB nm), .int .i64 (ap : Int), .slice va dl.length vc] from HG.out.box); obtain ⟨_, _, _, _, _, _⟩ := hbq.three; have hbl := hbq.lt; clear hbq; have hb4 := H1.box (HW1.out ▸ Box.new W 59 [.string ⟨#[]⟩, .int .i64 0, .slice none 0 0]) (show ¬ (_ = c.R) by omega); obtain ⟨_, _, _, _, _, _⟩ := hb4.three; have hWlt := hb4.lt; clear hb4; replace H1 := Lib.hid H1)
      refine bodyPost_ret (v := .agg #[.string (strB nm), .int .i64 (ap : Int), .slice va dl.length vc]) (by simp only [results, Try.results54]; go_simp <;> rfl) rfl ?_
      refine tellsY (o := (.cells #[.string ⟨#[]⟩, .int .i64 0, .slice none 0 0] 59)) H0.out (HW1.out ▸ H1.out) (by repeat (first | with_reducible exact Nb.refl _ _ | with_reducible refine Nb.set ?_ _ _)) (by rw [HR8.out]) ⟨nm, (ap : Int), dl⟩ (fun h => by rw [HR8.out] at h ⊢; exact HX.out h) ?_
      have hdn := HG.out.done (W0 := Wr) hB3l (flatC_len tyC_len dl)
      refine HW1.out ▸ ⟨_, rfl, ?_⟩
      unfold cnC
      exact InS.cons (.v _) (InS.cons (.v _) (InS.cons (by rw [tysC_eq]; exact hdn) InS.nil))

end Go.Proofs.Ytgkeblpjmfdhkaa
