/- The document's parser: brackets in atype. -/
import Derived.Test.YtgkeblpjmfdhkaaYatyM
import Derived.Test.YtgkeblpjmfdhkaaZDM
namespace Go.Proofs.Ytgkeblpjmfdhkaa
open Go.RowKit Go.Maps
set_option linter.unusedVariables false
set_option linter.unusedSimpArgs false

set_option maxRecDepth 100000 in
set_option maxHeartbeats 8000000 in
theorem c_atype_tup {c : Px} {n : Nat} {T : PS → Ty × PS} {vs : List By} {a : Option Addr} {cp : Nat} (HONE : ∀ (W0 W : World) (τ : PS), Cay c W0 W τ → VY c W a cp vs → τ.ts.length < n → Calls Try.prog 149 #[.pointer (some ⟨c.R, 0, none⟩), .slice a vs.length cp] W (TellsY c W0 W tyC (T τ))) (hdec : Dec T)
    {W0 W : World} {σ : PS} (h : Cay c W0 W σ) (hV : VY c W a cp vs) (hlen : σ.ts.length ≤ n) (hsee : σ.sees (sS tLpar) = true) {R : Ty × PS} (hR : tupleTypeF c.En T σ = R) :
    Calls Try.prog 103 #[.pointer (some ⟨c.R, 0, none⟩), .slice a vs.length cp] W (TellsY c W0 W tyC R) := by
  obtain ⟨i0, hi0, hz0, hz1, hz2⟩ := info_parts Try.zinfoT
  have hR0 := h.rd.lt
  have hlenc := h.rd.len
  have hcap := h.rd.cap
  have hR1 : c.R < (W.alloc (.cells #[.int .i64 0, .int .i64 0, .string ⟨#[]⟩, .slice none 0 0] 120)).heap.size := by simp; omega
  have hRW : c.R < W.heap.size + 1 := by omega
  obtain ⟨t, r, hts, hst, hk⟩ := sees_head hsee (by decide)
  have hsT : σ.seesType = true := by unfold PS.seesType; simp [hsee]
  obtain ⟨Q, hQ⟩ : ∃ Q, rowsF (sS tComma) maxTup T σ.tail = Q := ⟨_, rfl⟩
  have htl : σ.tail.ts.length < n := by rw [tail_len, hts]; rw [hts] at hlen; simp at hlen ⊢; omega
  have hshort := h.rd.short
  have HR : Hid (R = (tupTy Q.1, (Q.2.take c.En (sS tRpar)).2)) := by show _ = _; rw [← hR, ← hQ]; unfold tupleTypeF bracketF; rw [tail_take hsee]
  obtain ⟨x0, hx0⟩ : ∃ x0, T σ.tail = x0 := ⟨_, rfl⟩
  have hx0l : x0.2.ts.length ≤ σ.tail.ts.length := by rw [← hx0]; exact hdec _
  have HQ0 : Hid (rowsL (sS tComma) maxTup T x0.2.ts.length [x0.1] x0.2 = Q) := by show _ = _; rw [← hx0]; exact hQ
  obtain ⟨n0, hn0⟩ : ∃ n0, vs.length = n0 := ⟨_, rfl⟩
  have HN0 := Lib.hid hn0
  have HV := Lib.hid (hV.under ((Below.refl _ W).alloc (Nat.le_refl _) (.cells #[.int .i64 0, .int .i64 0, .string ⟨#[]⟩, .slice none 0 0] 120)))
  have HX0 : Hid (∀ (W0 W : World), Cay c W0 W σ.tail → VY c W a cp vs → Calls Try.prog 149 #[.pointer (some ⟨c.R, 0, none⟩), .slice a n0 cp] W (TellsY c W0 W tyC x0)) := fun W0 W hc hv => by rw [← hn0]; rw [← hx0]; exact HONE W0 W σ.tail hc hv htl
  have HONE2 : Hid (∀ τ : PS, τ.ts.length < n → ∀ (W0 W : World), Cay c W0 W τ → VY c W a cp vs → Calls Try.prog 149 #[.pointer (some ⟨c.R, 0, none⟩), .slice a n0 cp] W (TellsY c W0 W tyC (T τ))) := fun τ hl W0 W hc hv => by rw [← hn0]; exact HONE W0 W τ hc hv hl
  have H0 := Lib.hid h
  have H1 := Lib.hid (h.begin (.cells #[.int .i64 0, .int .i64 0, .string ⟨#[]⟩, .slice none 0 0] 120))
  have HS := Lib.hid hsT
  have HTS := Lib.hid hts
  have HDC := Lib.hid hdec
  obtain ⟨tk, tp, tx, tn⟩ := t
  have hk1 : tk = 5 := hk
  subst hk1
  obtain ⟨TX, hTX⟩ : ∃ TX, strB tx = TX := ⟨_, rfl⟩
  have HTX := Lib.hid hTX
  rw [hn0]
  clear h hR hsee hsT hts hst hk hTX hQ hx0 HONE hdec hV hn0
  go_enter Try.func103, Try.ntmps103
  go_upto_region 4 with (go_at_call 102; refine (c_atypic H1.out HS.out).mono ?_; clear H1 HS; rintro e w1 ⟨rfl, H1, ho1⟩; clear ho1; replace H1 := Lib.hid H1)
  obtain ⟨i, b, off, h0', hi, hd, ha, hbR, hb, q0, q1, q2, q3, _, _⟩ := H1.out.rd.head HTS.out
  obtain ⟨_, _, _, _, _⟩ := five_cells hb
  obtain ⟨_, _, _, _, _⟩ := five_frozen hb
  have T9 : ∀ W, Sem.run Try.prog (Instr.indexAt 81 (.slice (some ⟨b, off, none⟩) c.ts.length c.cp) (.int .i64 (i : Int))) W = .ok (.pointer (some ⟨b, off + i * 4, none⟩)) W := fun W => by go_simp
  have hR9 := H1.out.rd.lt
  have hb9 : b < w1.heap.size := by omega
  have hne : b ≠ c.R := by omega
  dsimp only at q0 q1 q2 q3
  have hTX := HTX.out
  rw [hTX] at q2
  obtain ⟨hs1, hs2, hs3⟩ := H1.out.stepTok HTS.out h0' hd hi ha hb [.int .i64 (5 : Int), .int .i64 (tp : Int), .string TX, .int .i64 (tn : Int)]
  replace H1 := Lib.hid hs1
  clear hb hd ha h0' hTX hs1 hs2 hs3
  go_region
  go_wp2_with (go_at_call 149; refine (HX0.out _ _ H1.out (HV.out.out H1.out.out)).mono ?_; clear HX0 H1; rintro e w2 ⟨v1, x1, rfl, hv1, hx1, H1, ho1⟩; obtain ⟨z0, z1, z2, z3, z4, z5, zhz⟩ := hv1.tys; subst zhz; have HV1 := Lib.hid hv1; have HX1 := Lib.hid hx1; clear ho1 hv1 hx1; replace H1 := Lib.hid H1)
  clear q0 q1 q2 q3 T9
  go_loopg [7] (x0.2.ts.length) (fun gn v wr => ∃ (l dl : List Ty) (τ : PS) (us : List Value) (f : Nat), Hid (Cay c (W.alloc (.cells #[.int .i64 0, .int .i64 0, .string ⟨#[]⟩, .slice none 0 0] 120)) wr τ) ∧ Hid (GR (W.alloc (.cells #[.int .i64 0, .int .i64 0, .string ⟨#[]⟩, .slice none 0 0] 120)) (W.heap.size + 1) 120 4 wr v dl.length (dl.flatMap tyC) us) ∧ Hid (rowsL (sS tComma) maxTup T f l τ = Q) ∧ Hid (τ.st = false → dl = l) ∧ l.length = dl.length ∧ dl.length ≤ 8 ∧ gn = τ.ts.length ∧ τ.ts.length ≤ f ∧ dl.length + τ.ts.length ≤ 65537 ∧ τ.ts.length < n)
  case atStart =>
    refine ⟨[x0.1], [x1], x0.2, [.int .i64 z0, .int .i64 z1, .string (strB z2), .slice z3 z4 z5], x0.2.ts.length, H1.out.alloc _, ?_, HQ0, fun h => by rw [HX1.out h], rfl, (by simp), rfl, Nat.le_refl _, by have h8 := tail_len σ; simp; omega, by omega⟩
    have hsz := H1.out.size
    have := GR.one (base := (W.heap.size + 1)) (e := 120) (k := 4) (W0 := (W.alloc (.cells #[.int .i64 0, .int .i64 0, .string ⟨#[]⟩, .slice none 0 0] 120))) (by simpa using hsz) (HV1.out.cells) rfl
    exact Lib.hid (by simpa [Value.cells] using this)
  case round =>
    obtain ⟨l, dl, τ, us, f, H1, HG, HL, HD, hll, hl8, rfl, hf, hl, hn⟩ := hrel
    clear HQ0 HV1 HX1
    obtain ⟨va, vc, hv⟩ := HG.out.shape
    have HLO := Lib.hid HG.out.lt
    obtain ⟨i1, _, hb1, _, hemp⟩ := H1.out.rd.box
    cases hst : τ.st with
    | true =>
      rw [hst] at hb1
      have hbad := hb1.cell 3
      have hts0 := hemp hst
      have hns : τ.sees (sS tComma) = false := by unfold PS.sees PS.next; rw [hts0]; decide
      have HE : Hid (Q = (l, τ)) := by show _ = _; rw [← HL.out]; exact rowsL_end (by rw [hns]; simp)
      subst hv
      clear hb1 hemp hst hts0 hns HL
      replace hbad : wr.cell? ⟨c.R, 3, none⟩ = some (.bool true) := hbad
      obtain ⟨A, hA⟩ : ∃ A, τ.take c.En (sS tRpar) = A := ⟨_, rfl⟩
      have HA := Lib.hid hA
      have HRR : Hid (R = (tupTy l, A.2)) := by show _ = _; rw [HR.out, HE.out, hA]
      have HX9 : Hid (A.2.st = false → dl = l) := fun h => HD.out (PS.take_st (by rw [hA]; exact h))
      clear hA HE HD
      by_cases h1 : dl.length = 1
      · obtain ⟨x, hx⟩ : ∃ x, dl = [x] := List.length_eq_one_iff.1 h1
        subst hx
        clear h1
        simp only [List.length_cons, List.length_nil, Nat.zero_add] at HG
        go_wp2_with (first
          | (go_at_call 53; refine (c_sign H1.out tRpar (askS (by decide) (by decide)) rfl HA.out).mono ?_; clear H1; rintro e w6 ⟨rfl, H1, ho1⟩; replace HG := Lib.hid (HG.out.out ho1 hRW hR1); have hdn := HG.out.done (by simp) (by simp [tyC_len]); rw [show ([x] : List Ty).flatMap tyC = tyC x by simp] at hdn; obtain ⟨_, b5, off5, us5, rfl, hv5, hcs⟩ := hdn.only; obtain ⟨y0, y1, y2, y3, y4, y5, hyeq⟩ := hv5.tys; obtain rfl := agg_inj hyeq; have q0 := hcs 0 _ rfl; have q1 := hcs 1 _ rfl; have q2 := hcs 2 _ rfl; have q3 := hcs 3 _ rfl; rw [Nat.add_zero] at q0; have HVx := Lib.hid hv5; clear ho1 hv5 hdn hcs; have hb4 := H1.res hR0; obtain ⟨_, _, _, _⟩ := four_cells hb4; obtain ⟨_, _, _, _⟩ := four_frozen hb4; clear hb4; replace H1 := Lib.hid H1))
        refine bodyPost_ret (v := .agg #[.int .i64 y0, .int .i64 y1, .string (strB y2), .slice y3 y4 y5]) (by simp only [results, Try.results103]; go_simp <;> rfl) rfl ?_
        refine tellsY H0.out H1.out (by repeat (first | with_reducible exact Nb.refl _ _ | with_reducible refine Nb.set ?_ _ _ | with_reducible refine Nb.alloc ?_ _ | with_reducible refine Nb.drew ?_)) (by rw [HRR.out]) x (fun h => by rw [HRR.out] at h ⊢; rw [← HX9.out h]; rfl) ?_
        exact HVx.out
      · have e1 : ((dl.length : Int) == 1) = false := by simp; omega
        have HTU := Lib.hid (tupTy_ne (l := dl) h1)
        clear h1
        go_wp2_with (first
          | (go_at_call 53; refine (c_sign H1.out tRpar (askS (by decide) (by decide)) rfl HA.out).mono ?_; clear H1; rintro e w6 ⟨rfl, H1, ho1⟩; replace HG := Lib.hid (HG.out.out ho1 hRW hR1); clear ho1; have hb4 := H1.res hR0; obtain ⟨_, _, _, _⟩ := four_cells hb4; obtain ⟨_, _, _, _⟩ := four_frozen hb4; clear hb4; replace H1 := Lib.hid H1))
        refine bodyPost_ret (v := .agg #[.int .i64 2, .int .i64 0, .string ⟨#[44]⟩, .slice va dl.length vc]) (by simp only [results, Try.results103]; go_simp <;> rfl) rfl ?_
        refine tellsY H0.out H1.out (by repeat (first | with_reducible exact Nb.refl _ _ | with_reducible refine Nb.set ?_ _ _ | with_reducible refine Nb.alloc ?_ _ | with_reducible refine Nb.drew ?_)) (by rw [HRR.out]) (tupTy dl) (fun h => by rw [HRR.out] at h ⊢; rw [HX9.out h]) ?_
        rw [HTU.out]
        have hdn := HG.out.done (by simp) (by rw [flatC_len tyC_len])
        exact IsV.of_ty (s := tComma) (by rw [tysC_eq]; exact hdn)
    | false =>
      rw [hst] at hb1
      have hbad : wr.cell? ⟨c.R, 3, none⟩ = some (.bool false) := hb1.cell 3
      cases hs : τ.sees (sS tComma) with
      | false =>
        have HS := Lib.hid hs
        have HE : Hid (Q = (l, τ)) := by show _ = _; rw [← HL.out]; exact rowsL_end (by rw [hs]; simp)
        subst hv
        clear hb1 hemp hst hs HL
        obtain ⟨A, hA⟩ : ∃ A, τ.take c.En (sS tRpar) = A := ⟨_, rfl⟩
        have HA := Lib.hid hA
        have HRR : Hid (R = (tupTy l, A.2)) := by show _ = _; rw [HR.out, HE.out, hA]
        have HX9 : Hid (A.2.st = false → dl = l) := fun h => HD.out (PS.take_st (by rw [hA]; exact h))
        clear hA HE HD
        by_cases h1 : dl.length = 1
        · obtain ⟨x, hx⟩ : ∃ x, dl = [x] := List.length_eq_one_iff.1 h1
          subst hx
          clear h1
          simp only [List.length_cons, List.length_nil, Nat.zero_add] at HG
          go_wp2_with (first
            | (go_at_call 50; refine (c_peek H1.out (sS tComma) (askS (by decide) (by decide)) rfl rfl HS.out).mono ?_; clear H1; rintro e w3 ⟨rfl, H1, ho1⟩; replace HG := Lib.hid (HG.out.out ho1 hRW hR1); clear ho1; replace H1 := Lib.hid H1)
            | (go_at_call 53; refine (c_sign H1.out tRpar (askS (by decide) (by decide)) rfl HA.out).mono ?_; clear H1; rintro e w6 ⟨rfl, H1, ho1⟩; replace HG := Lib.hid (HG.out.out ho1 hRW hR1); have hdn := HG.out.done (by simp) (by simp [tyC_len]); rw [show ([x] : List Ty).flatMap tyC = tyC x by simp] at hdn; obtain ⟨_, b5, off5, us5, rfl, hv5, hcs⟩ := hdn.only; obtain ⟨y0, y1, y2, y3, y4, y5, hyeq⟩ := hv5.tys; obtain rfl := agg_inj hyeq; have q0 := hcs 0 _ rfl; have q1 := hcs 1 _ rfl; have q2 := hcs 2 _ rfl; have q3 := hcs 3 _ rfl; rw [Nat.add_zero] at q0; have HVx := Lib.hid hv5; clear ho1 hv5 hdn hcs; have hb4 := H1.res hR0; obtain ⟨_, _, _, _⟩ := four_cells hb4; obtain ⟨_, _, _, _⟩ := four_frozen hb4; clear hb4; replace H1 := Lib.hid H1))
          refine bodyPost_ret (v := .agg #[.int .i64 y0, .int .i64 y1, .string (strB y2), .slice y3 y4 y5]) (by simp only [results, Try.results103]; go_simp <;> rfl) rfl ?_
          refine tellsY H0.out H1.out (by repeat (first | with_reducible exact Nb.refl _ _ | with_reducible refine Nb.set ?_ _ _ | with_reducible refine Nb.alloc ?_ _ | with_reducible refine Nb.drew ?_)) (by rw [HRR.out]) x (fun h => by rw [HRR.out] at h ⊢; rw [← HX9.out h]; rfl) ?_
          exact HVx.out
        · have e1 : ((dl.length : Int) == 1) = false := by simp; omega
          have HTU := Lib.hid (tupTy_ne (l := dl) h1)
          clear h1
          go_wp2_with (first
            | (go_at_call 50; refine (c_peek H1.out (sS tComma) (askS (by decide) (by decide)) rfl rfl HS.out).mono ?_; clear H1; rintro e w3 ⟨rfl, H1, ho1⟩; replace HG := Lib.hid (HG.out.out ho1 hRW hR1); clear ho1; replace H1 := Lib.hid H1)
            | (go_at_call 53; refine (c_sign H1.out tRpar (askS (by decide) (by decide)) rfl HA.out).mono ?_; clear H1; rintro e w6 ⟨rfl, H1, ho1⟩; replace HG := Lib.hid (HG.out.out ho1 hRW hR1); clear ho1; have hb4 := H1.res hR0; obtain ⟨_, _, _, _⟩ := four_cells hb4; obtain ⟨_, _, _, _⟩ := four_frozen hb4; clear hb4; replace H1 := Lib.hid H1))
          refine bodyPost_ret (v := .agg #[.int .i64 2, .int .i64 0, .string ⟨#[44]⟩, .slice va dl.length vc]) (by simp only [results, Try.results103]; go_simp <;> rfl) rfl ?_
          refine tellsY H0.out H1.out (by repeat (first | with_reducible exact Nb.refl _ _ | with_reducible refine Nb.set ?_ _ _ | with_reducible refine Nb.alloc ?_ _ | with_reducible refine Nb.drew ?_)) (by rw [HRR.out]) (tupTy dl) (fun h => by rw [HRR.out] at h ⊢; rw [HX9.out h]) ?_
          rw [HTU.out]
          have hdn := HG.out.done (by simp) (by rw [flatC_len tyC_len])
          exact IsV.of_ty (s := tComma) (by rw [tysC_eq]; exact hdn)
      | true =>
        have HS := Lib.hid hs
        obtain ⟨t, r, hts, hst2, hk⟩ := sees_head hs (by decide)
        have HTS := Lib.hid hts
        by_cases hlt : dl.length < 8
        · obtain ⟨f', hf1, hf2, hf3⟩ := rowsL_go (l := l) (most := maxTup) hf (by show l.length < 8; omega) hs (sS_ne _) HDC.out
          have HL2 : Hid (rowsL (sS tComma) maxTup T f' (l ++ [(T τ.tail).1]) (T τ.tail).2 = Q) := by show _ = _; rw [← hf1]; exact HL.out
          have htl : τ.tail.ts.length < n := by rw [tail_len]; omega
          have HX2 := Lib.hid (HONE2.out τ.tail htl)
          have hon : (T τ.tail).2.ts.length < n := by omega
          have e8 : ((dl.length : Int) == 8) = false := by simp; omega
          obtain ⟨L, hL⟩ : ∃ L, dl.length = L := ⟨_, rfl⟩
          have HLL := Lib.hid hL
          have HDL := Lib.hid (HD.out hst)
          rw [hL] at HG hl e8 hlt hll hl8 hv
          subst hv
          clear hb1 hemp hst hs HL hL hf1 hts
          go_upto_region 16 with ((go_at_call 50; refine (c_peek H1.out (sS tComma) (askS (by decide) (by decide)) rfl rfl HS.out).mono ?_; clear H1; rintro e w3 ⟨rfl, H1, ho1⟩; replace HG := Lib.hid (HG.out.out ho1 hRW hR1); clear ho1; replace H1 := Lib.hid H1))
          obtain ⟨i, b4, off4, h0', hi4, hd, ha, hbR4, hb, _, _, _, _, _, _⟩ := H1.out.rd.head HTS.out
          obtain ⟨_, _, _, _, _⟩ := five_cells hb
          obtain ⟨_, _, _, _, _⟩ := five_frozen hb
          obtain ⟨hs1, hs2⟩ := H1.out.step HTS.out h0' hd hi4 ha hb (Below.refl _ _)
          replace HG := Lib.hid (HG.out.out hs2 hRW hR1)
          replace H1 := Lib.hid hs1
          clear hb hd ha h0' hs1 hs2
          go_wp2_with (first
            | (go_at_call 149; have HQ4 := Lib.hid H1.out.size; refine (HX2.out _ _ ⟨H1.out.rd, Out.refl _ _, H1.out.rd.lt⟩ (HV.out.out H1.out.out)).mono ?_; clear HX2; rintro e w4 ⟨v1, x1, rfl, hv1, hx1, hc4, ho1⟩; obtain ⟨z0, z1, z2, z3, z4, z5, zhz⟩ := hv1.tys; subst zhz; have HQ := Lib.hid HG.out.lt; have HV1 := Lib.hid hv1; have HX1 := Lib.hid hx1; replace H1 := Lib.hid (H1.out.next hc4.rd ho1); replace HG := Lib.hid (HG.out.out ho1 hRW hR1); clear hc4 ho1 hv1 hx1)
            | (at_builtin; refine wpList_append_lies _ rfl _ _ 57 rfl (W.heap.size + 1) 120 i0 (.agg #[.int .i64 0, .int .i64 0, .string ⟨#[]⟩, .slice none 0 0]) 4 56 Try.underlying57 hi0 hz0 hz1 hz2 rfl (by decide) _ L us rfl (HG.out.1.alloc _) ⟨w4.heap.size, 0, none⟩ 1 1 [.int .i64 z0, .int .i64 z1, .string (strB z2), .slice z3 z4 z5] rfl rfl (news_at (cs := [.int .i64 z0, .int .i64 z1, .string (strB z2), .slice z3 z4 z5]) rfl) (by simp [Value.oneCell']) (by decide) ?c3 ?c4 ?c5 _ rfl ?_))
          case c3 => unfold maxLen; omega
          case c4 => omega
          case c5 => have := H1.out.size; simp at this ⊢; omega
          intro g cap w9 hown9 hgrow hat hlt9
          have HC9 := Lib.hid ((H1.out.alloc (.cells #[.int .i64 z0, .int .i64 z1, .string (strB z2), .slice z3 z4 z5] 120)).grow hgrow fun q hq => by have := (HQ.out q hq).1; simp at *; omega)
          have HG9 := Lib.hid (HG.out.push (W1 := w3.setCell ⟨c.R, 1, none⟩ (.int .i64 ((i : Int) + 1))) (ds := tyC x1) (vs := [.int .i64 z0, .int .i64 z1, .string (strB z2), .slice z3 z4 z5]) (by simpa [Value.cells] using HV1.out.cells) (fun q hq => (HQ.out q hq).2) HQ4.out hown9 hgrow hat)
          clear hgrow hat hlt9 hown9 H1 HG HV1 HQ
          go_wp2_with fail
          go_roundg (T τ.tail).2.ts.length
          case measure => exact hf3
          case rel => exact ⟨l ++ [(T τ.tail).1], dl ++ [x1], (T τ.tail).2, _, f', HC9, by simpa [HLL.out, List.flatMap_append] using HG9, HL2, fun h => by rw [HDL.out, HX1.out h], by simp [HLL.out]; omega, by simp [HLL.out]; omega, rfl, hf2, by simp [HLL.out]; omega, hon⟩
        · have h8 : dl.length = 8 := by omega
          have HE : Hid (Q = (l, τ)) := by show _ = _; rw [← HL.out]; exact rowsL_end (fun q => absurd q.1 (by show ¬ l.length < 8; omega))
          have hnr : τ.sees (sS tRpar) = false := by
            have h1 : τ.next = sS tComma := of_decide_eq_true hs
            unfold PS.sees; rw [h1]; decide
          have HRR : Hid (R.2 = τ.stop c.En) := by show _ = _; rw [HR.out, HE.out]; unfold PS.take; rw [if_neg (by rw [hnr]; decide)]
          rw [h8] at HG hv
          subst hv
          clear hb1 hemp hst hs HL hlt h8 hll hl8 hnr hts
          go_wp2_with (first
            | (go_at_call 50; refine (c_peek H1.out (sS tComma) (askS (by decide) (by decide)) rfl rfl HS.out).mono ?_; clear H1; rintro e w3 ⟨rfl, H1, ho1⟩; replace HG := Lib.hid (HG.out.out ho1 hRW hR1); clear ho1; replace H1 := Lib.hid H1)
            | (go_at_call 101; refine (c_fail H1.out).mono ?_; clear H1; rintro e w5 ⟨rfl, H1, ho1⟩; clear ho1; have hb4 := H1.res hR0; obtain ⟨_, _, _, _⟩ := four_cells hb4; obtain ⟨_, _, _, _⟩ := four_frozen hb4; clear hb4; replace H1 := Lib.hid H1))
          refine bodyPost_ret (v := .agg #[.int .i64 0, .int .i64 0, .string ⟨#[]⟩, .slice none 0 0]) (by simp only [results, Try.results103]; go_simp <;> rfl) rfl ?_
          refine tellsY H0.out H1.out (by repeat (first | with_reducible exact Nb.refl _ _ | with_reducible refine Nb.set ?_ _ _ | with_reducible refine Nb.alloc ?_ _ | with_reducible refine Nb.drew ?_)) (by rw [HRR.out]) Ty.zero (fun h => by rw [HRR.out, stop_st] at h; cases h) ?_
          exact zero_ty _ _

end Go.Proofs.Ytgkeblpjmfdhkaa
