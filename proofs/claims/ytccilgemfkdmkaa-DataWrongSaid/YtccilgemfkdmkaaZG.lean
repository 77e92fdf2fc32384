/- Package parse's reader: con. Package parse's places: the first place of each variable. Package parse's reader: data. Package parse's reader: program. Package parse's reader: program, walked. Package parse's reader: program: the contract. -/
import Derived.Test.YtccilgemfkdmkaaZF
import Derived.Test.YtccilgemfkdmkaaZC
import Derived.Test.YtccilgemfkdmkaaZE
import Derived.Deep.RegionLaw
import Derived.Deep.DeepCutAuto
import Derived.Deep.CutRange
namespace Go.Proofs.Ytccilgemfkdmkaa
open Go.RowKit Go.Maps
set_option linter.unusedVariables false
set_option linter.unusedSimpArgs false

theorem Box.set3o {w : World} {b B : Nat} {t : TypeId} {cs : List Value} (h : Box w b t cs) (hn : b ≠ B) (v0 v1 v2 : Value) : Box (((w.setCell ⟨B, 0, none⟩ v0).setCell ⟨B, 1, none⟩ v1).setCell ⟨B, 2, none⟩ v2) b t cs :=
  ((h.setOther (a := ⟨B, 0, none⟩) hn v0).setOther (a := ⟨B, 1, none⟩) hn v1).setOther (a := ⟨B, 2, none⟩) hn v2
theorem IsV.of_cn {S : Nat → Prop} {w : World} {s : By} {p : Int} {args : List Ty} {a : Value} (h : InC S w (.s args.length 4 (tysC args)) a) : IsV S w (cnC ⟨s, p, args⟩) (.agg #[.string (strB s), .int .i64 p, a]) :=
  ⟨[_, _, _], rfl, InS.cons (.v _) (InS.cons (.v _) (InS.cons h InS.nil))⟩

set_option maxRecDepth 100000 in
set_option maxHeartbeats 4000000 in
theorem k_con {c : Cx} {n : Nat} {W0 W : World} {σ : PS} (h : Car c W0 W σ) (hlen : σ.ts.length ≤ n) {R : Cn × PS} (hR : conF c.En c.vs n σ = R) :
    Calls Try.prog 102 #[.pointer (some ⟨c.R, 0, none⟩)] W (Tells c W0 W cnC R) := by
  have hfs := fld_s
  have hfp := fld_p
  have hR0 := h.rd.lt
  have hR1 : c.R < (W.alloc (.cells #[.string ⟨#[]⟩, .int .i64 0, .slice none 0 0] 59)).heap.size := by simp; omega
  have hWs : (W.alloc (.cells #[.string ⟨#[]⟩, .int .i64 0, .slice none 0 0] 59)).heap.size = W.heap.size + 1 := by simp
  have hlen6 := h.rd.len
  obtain ⟨A, hA⟩ : ∃ A, σ.take c.En sCon = A := ⟨_, rfl⟩
  obtain ⟨Y, hY⟩ : ∃ Y, atomTypesF c.En c.vs (typF c.En c.vs n) A.2 = Y := ⟨_, rfl⟩
  have l1 : A.2.ts.length ≤ n := by rw [← hA]; exact Nat.le_trans (take_len _ _ _) hlen
  have HR : Hid (R = (⟨A.1.s, A.1.p, Y.1⟩, Y.2)) := by show _ = _; rw [← hR, ← hY, ← hA]; rfl
  have HX : Hid (∀ (W0 W : World), Car c W0 W A.2 → Calls Try.prog 117 #[.pointer (some ⟨c.R, 0, none⟩)] W fun e w' => ∃ a cp, e = .returned (.slice a Y.1.length cp) ∧ InC (New W0) w' (.s Y.1.length 4 (tysC Y.1)) (.slice a Y.1.length cp) ∧ Car c W0 w' Y.2 ∧ Out (fun b => b = c.R) W w') := fun W0 W hc => k_atomTypes (k_typ c n) (typF_len c.En c.vs n) hc l1 hY
  have HA := Lib.hid hA
  have H0 := Lib.hid h
  have H1 := Lib.hid (h.begin (.cells #[.string ⟨#[]⟩, .int .i64 0, .slice none 0 0] 59))
  clear h hR hA hY l1 hlen
  obtain ⟨L, hL⟩ : ∃ L, Y.1.length = L := ⟨_, rfl⟩
  rw [hL] at HX
  have HL := Lib.hid hL
  clear hL
  go_enter Try.func102, Try.ntmps102
  go_wp2_with (first
    | (go_at_call 54; refine (k_some H1.out _).mono ?_; clear H1; rintro e w1 ⟨rfl, H1, ho1⟩; clear ho1; replace H1 := Lib.hid H1)
    | (go_at_call 59; refine (k_take H1.out sCon (sortFit (by decide) (by decide)) (by decide) rfl rfl HA.out).mono ?_; clear HA; clear H1; rintro e w3 ⟨rfl, H1, ho1⟩; have hB3l := H1.size; have hB3n : w3.heap.size ≠ c.R := (by have := H1.rd.lt; omega); have hB3r : w3.heap.size ≠ W.heap.size := (by omega); have HB3 := Lib.hid (Box.new w3 93 [.int .i64 (A.1.k : Int), .int .i64 (A.1.p : Int), .string (strB A.1.s), .int .i64 (A.1.n : Int)]); clear ho1; replace H1 := Lib.hid (H1.alloc (.cells #[.int .i64 (A.1.k : Int), .int .i64 (A.1.p : Int), .string (strB A.1.s), .int .i64 (A.1.n : Int)] 93))))
  have HS0 := Lib.hid (c12 (Box.drew HB3.out))
  have hcl := HB3.out.lt
  go_region_held3 (fun w' => w'.cell? ⟨w3.heap.size, 1, none⟩ = some (.int .i64 (A.1.p : Int)) ∧ w'.cell? ⟨w3.heap.size, 2, none⟩ = some (.string (strB A.1.s)))
    (first
      | (with_reducible apply HS0.out)
      | (with_reducible apply HS1.out)
      | (with_reducible apply HS3.out))
    (first
      | (go_at_call 117; (with_reducible refine (HX.out _ _ (Car.drew H1.out)).mono ?_); rintro e w4 ⟨a4, cp4, rfl, hc4, H4, ho1⟩; have HB4 := Lib.hid (stayB ho1 (Box.drew HB3.out) hB3n); have HS1 := Lib.hid (c12 HB4.out); have HS3 := Lib.hid (c12 (Box.set3o HB4.out hB3r (.string (strB A.1.s)) (.int .i64 (A.1.p : Int)) (.slice a4 L cp4))); have hb4 := H4.res hR0; obtain ⟨_, _, _, _, _, _⟩ := hb4.three; have hw04 : W.heap.size < w4.heap.size := hb4.lt; clear hb4; have HW := Lib.hid hc4; have H4 := Lib.hid H4; clear ho1 hc4)
      | fail)
  all_goals (rename_i hh; clear hh HS0 HS1 HS3)
  all_goals (refine (by assumption : ∀ (a : Act) (w : World), Code.wp Try.prog Code.ret (bodyPost Try.prog Try.f102 (Tells c W0 W cnC R)) a w → (_ : Act → World → Prop) a w) _ _ (wp_ret ?_))
  refine bodyPost_ret (v := .agg #[.string (strB A.1.s), .int .i64 (A.1.p : Int), .slice a4 L cp4]) (by simp only [results, Try.results102]; go_simp <;> rfl) rfl ?_
  refine tells H0.out H4.out (by repeat (first | with_reducible exact Nb.refl _ _ | with_reducible refine Nb.set ?_ _ _ | with_reducible refine Nb.alloc ?_ _ | with_reducible refine Nb.drew ?_)) (by rw [HR.out]) ?_
  rw [HR.out]
  exact IsV.of_cn (by have := HW.out; rwa [← HL.out] at this ⊢)

end Go.Proofs.Ytccilgemfkdmkaa

namespace Go.Proofs.Ytccilgemfkdmkaa
open Go.RowKit Go.Maps
set_option linter.unusedVariables false
set_option linter.unusedSimpArgs false

theorem placeL_snoc (vs : List By) (v s : By) : placeL (vs ++ [v]) s = match placeL vs s with
    | some i => some i
    | none => if v = s then some vs.length else none := by
  induction vs with
  | nil => simp [placeL]
  | cons u r ih =>
    simp only [List.cons_append, placeL]
    by_cases h : u = s
    · simp [h]
    · simp only [if_neg h, ih]
      cases placeL r s with
      | some i => simp
      | none => by_cases h2 : v = s <;> simp [h2]
theorem str_key_inj {a b : By} {l : Lit} (h1 : keyOf Try.prog 9 (.string (strB a)) = some l) (h2 : keyOf Try.prog 9 (.string (strB b)) = some l) : a = b := by
  have := Try.zstrKeyed.inj h1 h2
  simp at this
  exact strB_inj this
theorem vinv_nil : VInv [] (.map []) := ⟨isMap_empty, fun s kl _ _ => ⟨by simp [Maps.has, placeL], by simp [placeL]; rfl⟩⟩
theorem vinv_hit {vs : List By} {v : By} {D : DataW Unit} (h : VInv vs D) {i : Nat} (hi : placeL vs v = some i) : VInv (vs ++ [v]) D := by
  refine ⟨h.1, fun s kl hs hk => ?_⟩
  obtain ⟨h1, h2⟩ := h.2 s kl hs hk
  rw [placeL_snoc]
  cases e : placeL vs s with
  | some j => rw [e] at h1 h2; exact ⟨h1, h2⟩
  | none =>
    have hne : v ≠ s := fun q => by rw [q] at hi; rw [hi] at e; cases e
    simp only [if_neg hne]
    rw [e] at h1 h2; exact ⟨h1, h2⟩
theorem vinv_new {vs : List By} {v : By} {D : DataW Unit} (h : VInv vs D) (hi : placeL vs v = none) {kl : Lit} (hk : keyOf Try.prog 9 (.string (strB v)) = some kl) : VInv (vs ++ [v]) (D.put kl (.lit (.int .i64 (vs.length : Nat)))) := by
  have hl := Try.zstrKeyed.key hk
  refine ⟨h.1.put _ _, fun s kl' hs hk' => ?_⟩
  obtain ⟨h1, h2⟩ := h.2 s kl' hs hk'
  rw [placeL_snoc]
  by_cases e : v = s
  · subst e
    rw [hk] at hk'
    obtain rfl := Option.some.inj hk'
    rw [hi]
    simp only [if_true]
    exact ⟨by rw [has_put_same h.1 hl]; rfl, by rw [atKey_put_same h.1 hl]; rfl⟩
  · have hne : kl' ≠ kl := fun q => e (str_key_inj hk (q ▸ hk'))
    rw [has_put_other hne, atKey_put_other hne, h1, h2]
    cases placeL vs s with
    | some j => exact ⟨rfl, rfl⟩
    | none => simp [e]

set_option maxRecDepth 100000 in
set_option maxHeartbeats 4000000 in
theorem z_places {S : Nat → Prop} (w : World) (vs : List By) (a : Option Addr) (m cap : Nat) (hm : vs.length = m) (hl : m ≤ 1000000) (hlen : ∀ s ∈ vs, s.length ≤ 1000000) (hN : InC S w (.s vs.length 1 (strsC vs)) (.slice a m cap)) :
    Calls Try.prog 100 #[.slice a m cap] w fun e w' => ∃ M n D, e = .returned (.map (some M)) ∧ w.heap.size ≤ M ∧ w'.ownsMap Try.prog 9 (plainElem Try.prog 3) M n D ∧ VInv vs D ∧ Below w.heap.size w w' := by
  have hmm := @run_makeMap Try.prog
  have HN := Lib.hid hN
  have HM := Lib.hid hm
  have HLN := Lib.hid hlen
  clear hN hm hlen
  go_enter Try.func100, Try.ntmps100
  go_wp2_with fail
  go_loopw [11] (fun i wr => ∃ (k nn : Nat) (D : DataW Unit), k ≤ m ∧ nn ≤ k ∧ i = .int .i64 (k : Int) ∧ Hid (wr.ownsMap Try.prog 9 (plainElem Try.prog 3) w.heap.size nn D) ∧ Hid (VInv (vs.take k) D) ∧ Hid (Below w.heap.size w wr)) (fun i _ => m - (intOf i).toNat)
  case atStart => exact ⟨0, 0, .map [], Nat.zero_le _, Nat.le_refl _, rfl, World.ownsMap_made _ _ _ _, Lib.hid (by simpa using vinv_nil), (Below.refl _ _).alloc (Nat.le_refl _) _⟩
  case round =>
    obtain ⟨k, nn, D, hk, hnn, rfl, HMP, HV, HB⟩ := hrel
    by_cases hlt : k < m
    · obtain ⟨_, h2 | ⟨b, off, h2, _, hbw, hc⟩⟩ := names_cells HN.out
      · exact absurd h2 (by rw [HM.out]; omega)
      · subst h2
        obtain ⟨v, hv⟩ : ∃ v, vs[k]? = some v := ⟨_, List.getElem?_eq_getElem (by rw [HM.out]; exact hlt)⟩
        have hvl := HLN.out v (List.mem_of_getElem? hv)
        have hcx : wr.cell? ⟨b, off + k, none⟩ = some (.string (strB v)) := by
          have := (HB.out.cell (p := ⟨b, off + k, none⟩) hbw).trans (hc k (by rw [HM.out]; exact hlt))
          rw [this]; simp [List.getD, hv]
        have htk : vs.take (k + 1) = vs.take k ++ [v] := by rw [List.take_add_one, hv]; rfl
        have htl : (vs.take k).length = k := by rw [List.length_take, HM.out]; omega
        obtain ⟨kl, hkl⟩ := str_key hvl
        obtain ⟨q1, q2⟩ := HV.out.2 v kl hvl hkl
        have hbr : b < wr.heap.size := by have := HB.out.size; omega
        have HTK := Lib.hid htk
        have HTL := Lib.hid htl
        have HKL := Lib.hid hkl
        cases ho : placeL (vs.take k) v with
        | some i =>
          rw [ho] at q1 q2
          have HHIT := Lib.hid (vinv_hit HV.out ho)
          have hlook := look_at Try.zstrKeyed Try.underlying75 Try.underlying3 (Try.zzeroInt _) HMP.out hkl q1 q2
          clear hc hv htk htl hkl q1 q2 ho
          simp only [Option.isSome] at hlook
          go_wp2_with fail
          go_roundw
          case rel => exact ⟨k + 1, nn, D, by omega, by omega, by go_num, HMP, by rw [HTK.out]; exact HHIT, HB⟩
          case measure => simp [intOf]; omega
        | none =>
          rw [ho] at q1 q2
          have HNEW := Lib.hid (vinv_new HV.out ho hkl)
          have hlook := look_at Try.zstrKeyed Try.underlying75 Try.underlying3 (Try.zzeroInt _) HMP.out hkl q1 q2
          have hkw : (Lit.int .i64 (k : Int)).wf = true := WalkArith.wf_i64 (by omega)
          obtain ⟨w9, hrun9, hown9, hturn9⟩ := World.ownsMap.store HMP.out Try.zstrKeyed Try.underlying75 (show nn < maxLen by unfold maxLen; omega) hkl (plainElem_int Try.underlying3 hkw)
          have HO9 := Lib.hid hown9
          have HG9 := Lib.hid hturn9.grown
          clear hc hv htk htl hkl q1 q2 ho hown9 hturn9
          simp only [Option.isSome] at hlook
          go_wp2_with fail
          go_roundw
          case rel => exact ⟨k + 1, nn + 1, _, by omega, by omega, by go_num, HO9, by rw [HTK.out]; have := HNEW.out; rw [HTL.out] at this; exact this, HB.out.grown HG9.out HB.out.size (fun q e => by cases e; exact Nat.le_refl _)⟩
          case measure => simp [intOf]; omega
    · have hkm : k = m := by omega
      subst hkm
      go_wp2_with fail
      go_ret
      exact ⟨_, nn, D, rfl, Nat.le_refl _, HMP.out, by have := HV.out; rwa [List.take_of_length_le (by rw [HM.out]; exact Nat.le_refl _)] at this, HB.out⟩

end Go.Proofs.Ytccilgemfkdmkaa

namespace Go.Proofs.Ytccilgemfkdmkaa
open Go.RowKit Go.Maps
set_option linter.unusedVariables false
set_option linter.unusedSimpArgs false

theorem RD.revar {R En B : Nat} {vv : Value} {vs : List By} {w : World} {σ : PS} (h : RD (Cx.mk R En B vv vs) w σ) {M n : Nat} {D : DataW Unit} {vs' : List By} (hm : w.ownsMap Try.prog 9 (plainElem Try.prog 3) M n D) (hv : VInv vs' D) (hM : M ≠ R) :
    RD (Cx.mk R En B (.map (some M)) vs') (w.setCell ⟨R, 3, none⟩ (.map (some M))) σ := by
  obtain ⟨a, cp, h1, h2, h3⟩ := h.box
  obtain ⟨n1, D1, hb1, hb2⟩ := h.beg
  have hk : ∀ b, b ≠ R → (w.setCell ⟨R, 3, none⟩ (.map (some M))).heap[b]? = w.heap[b]? := fun b hb => Below.heap_setCell w ⟨R, 3, none⟩ _ b hb
  refine ⟨⟨a, cp, h1.set 3 (.map (some M)), h2.agreeR (fun b hb => hk b (by have : b < R := hb; omega)), h3⟩, ⟨n1, D1, ownsMap_agree hb1 (hk _ h.ne), hb2⟩, h.ne, .inr ⟨M, n, D, rfl, hM, ownsMap_agree hm (hk M hM), hv⟩, h.fit, h.ok, h.en, h.atl, h.len⟩
theorem Car.revar {R En B : Nat} {vv : Value} {vs : List By} {W0 w : World} {σ : PS} (h : Car (Cx.mk R En B vv vs) W0 w σ) {M n : Nat} {D : DataW Unit} {vs' : List By} (hm : w.ownsMap Try.prog 9 (plainElem Try.prog 3) M n D) (hv : VInv vs' D) (hM : M ≠ R) :
    Car (Cx.mk R En B (.map (some M)) vs') W0 (w.setCell ⟨R, 3, none⟩ (.map (some M))) σ := ⟨h.rd.revar hm hv hM, h.out.set1 3 _, h.lt⟩
theorem RD.nb {c : Cx} {w w' : World} {σ : PS} {g : Nat} (h : RD c w σ) (hn : Nb g w w') (hR : c.R < g) (hB : c.B ≠ g) (hV : ∀ M, c.vv = .map (some M) → M ≠ g) : RD c w' σ := by
  obtain ⟨a, cp, h1, h2, h3⟩ := h.box
  obtain ⟨n1, D1, hb1, hb2⟩ := h.beg
  have hl := h1.lt
  refine ⟨⟨a, cp, (hn.block _ hl (by omega)).trans h1, h2.agreeR (fun b hb => hn.block b (by omega) (by omega)), h3⟩, ⟨n1, D1, ownsMap_agree hb1 (hn.block _ (ownsMap_lt hb1) hB), hb2⟩, h.ne, ?_, h.fit, h.ok, h.en, h.atl, h.len⟩
  rcases h.vars with e | ⟨M, n, D, e, hM, hm, hv⟩
  · exact .inl e
  · exact .inr ⟨M, n, D, e, hM, ownsMap_agree hm (hn.block M (ownsMap_lt hm) (hV M e)), hv⟩
theorem fin_out {R : Nat} {W w w' : World} {o : Obj} (hc : Out (fun b => b = R) (W.alloc o) w) (hn : Nb W.heap.size w w') : Out (fun b => b = R) W w' := by
  have hsz : (W.alloc o).heap.size = W.heap.size + 1 := by simp
  have h1 := hc.size
  exact ⟨hn.os.trans hc.os, hn.tape.trans hc.tape, hn.output.trans hc.output, by have := hn.size; omega, fun k hk hne =>
    (hn.block k (by omega) (by omega)).trans ((hc.block k (by omega) hne).trans (Below.heap_alloc W o k hk))⟩
theorem IsV.of_dt {S : Nat → Prop} {w : World} {s : By} {p : Int} {vars : List By} {cons : List Cn} {a b : Value} (h : InC S w (.s vars.length 1 (strsC vars)) a) (h' : InC S w (.s cons.length 3 (cons.flatMap cnC)) b) : IsV S w (dtC ⟨s, p, vars, cons⟩) (.agg #[.string (strB s), .int .i64 p, a, b]) :=
  ⟨[_, _, _, _], rfl, InS.cons (.v _) (InS.cons (.v _) (InS.cons h (InS.cons h' InS.nil)))⟩
theorem namesL_fit : ∀ (l : List Tk), (∀ t ∈ l, t.fit) → ∀ s ∈ (namesL l).1, s.length ≤ 1000000
  | [], _ => by simp [namesL]
  | t :: r, h => by
    unfold namesL; split
    · intro s hs
      rcases List.mem_cons.1 hs with rfl | hs
      · exact (h t (List.mem_cons_self ..)).2.2.1
      · exact namesL_fit r (fun x hx => h x (List.mem_cons_of_mem _ hx)) s hs
    · intro s hs; cases hs
theorem take_fits {En : Nat} {σ : PS} {s : Srt} (h : ∀ t ∈ σ.ts, t.fit) : ∀ t ∈ (σ.take En s).2.ts, t.fit := by
  unfold PS.take; split
  · intro t ht; exact h t (List.mem_of_mem_tail ht)
  · unfold PS.stop; split
    · exact h
    · intro t ht; cases ht

set_option maxRecDepth 100000 in
set_option maxHeartbeats 4000000 in
theorem k_data {R En B n : Nat} {vv : Value} {vs : List By} {W0 W : World} {σ : PS} (h : Car (Cx.mk R En B vv vs) W0 W σ) (hlen : σ.ts.length ≤ n) {Q : Dt × PS} (hQ : dataF En n σ = Q) :
    Calls Try.prog 58 #[.pointer (some ⟨R, 0, none⟩)] W fun e w' => ∃ v vv' vs', e = .returned v ∧ IsV (New W0) w' (dtC Q.1) v ∧ Car (Cx.mk R En B vv' vs') W0 w' Q.2 ∧ Out (fun b => b = R) W w' ∧ ∀ m, vv' = .map (some m) → W.heap.size ≤ m := by
  have hR0 : R < W.heap.size := h.rd.lt
  have hR1 : R < (W.alloc (.cells #[.string ⟨#[]⟩, .int .i64 0, .slice none 0 0, .slice none 0 0] 56)).heap.size := by simp; omega
  have hWs : (W.alloc (.cells #[.string ⟨#[]⟩, .int .i64 0, .slice none 0 0, .slice none 0 0] 56)).heap.size = W.heap.size + 1 := by simp
  have hlen6 := h.rd.len
  have hfits := h.rd.fit
  obtain ⟨A, hA⟩ : ∃ A, σ.take En (sW tData) = A := ⟨_, rfl⟩
  obtain ⟨A2, hA2⟩ : ∃ A2, A.2.take En sCon = A2 := ⟨_, rfl⟩
  obtain ⟨M, hM⟩ : ∃ M, A2.2.names = M := ⟨_, rfl⟩
  obtain ⟨D, hD⟩ : ∃ D, M.2.take En (sS tEq) = D := ⟨_, rfl⟩
  obtain ⟨Y, hY⟩ : ∃ Y, rowsF (sS tBar) many (conF En M.1 n) D.2 = Y := ⟨_, rfl⟩
  obtain ⟨F, hF⟩ : ∃ F, Y.2.take En (sS tSemi) = F := ⟨_, rfl⟩
  have l1 : A.2.ts.length ≤ σ.ts.length := by rw [← hA]; exact take_len _ _ _
  have l2 : A2.2.ts.length ≤ A.2.ts.length := by rw [← hA2]; exact take_len _ _ _
  have l3 : M.2.ts.length ≤ A2.2.ts.length := by rw [← hM]; exact names_len _
  have l4 : D.2.ts.length ≤ M.2.ts.length := by rw [← hD]; exact take_len _ _ _
  have l5 : M.1.length ≤ A2.2.ts.length := by rw [← hM]; exact namesL_fst _
  have HMF : Hid (∀ s ∈ M.1, s.length ≤ 1000000) := by show ∀ s ∈ M.1, _; rw [← hM, ← hA2, ← hA]; exact namesL_fit _ (take_fits (take_fits hfits))
  have HQ : Hid (Q = (⟨A2.1.s, A2.1.p, M.1, Y.1⟩, F.2)) := by show _ = _; rw [← hQ, ← hF, ← hY, ← hD, ← hM, ← hA2, ← hA]; rfl
  have HML : Hid (M.1.length ≤ 1000000) := by show _ ≤ _; omega
  have hDl : D.2.ts.length < n + 1 := by omega
  have HA := Lib.hid hA
  have HA2 := Lib.hid hA2
  have HM := Lib.hid hM
  have HD := Lib.hid hD
  have HY := Lib.hid hY
  have HF := Lib.hid hF
  have H0 := Lib.hid h
  have H1 : Hid (Car (Cx.mk R En B vv vs) (W.alloc (.cells #[.string ⟨#[]⟩, .int .i64 0, .slice none 0 0, .slice none 0 0] 56)) (W.alloc (.cells #[.string ⟨#[]⟩, .int .i64 0, .slice none 0 0, .slice none 0 0] 56)) σ) := h.begin _
  clear h hQ hA hA2 hM hD hY hF l1 l2 l3 l4 l5 hlen hfits
  obtain ⟨L, hL⟩ : ∃ L, M.1.length = L := ⟨_, rfl⟩
  have HL := Lib.hid hL
  rw [hL] at HML
  clear hL
  go_enter Try.func58, Try.ntmps58
  go_wp2_with (first
    | (go_at_call 55; refine (k_word H1.out _).mono ?_; clear H1; rintro e w1 ⟨rfl, H1, ho1⟩; (try (replace HB3 := Lib.hid (stayB ho1 HB3.out hB3n))); (try (replace HCN := Lib.hid (stayC ho1 hR1 HCN.out))); (try (replace HCC := Lib.hid (stayC ho1 hR1 HCC.out))); clear ho1; replace H1 := Lib.hid H1)
    | (go_at_call 54; refine (k_some H1.out _).mono ?_; clear H1; rintro e w1 ⟨rfl, H1, ho1⟩; (try (replace HB3 := Lib.hid (stayB ho1 HB3.out hB3n))); (try (replace HCN := Lib.hid (stayC ho1 hR1 HCN.out))); (try (replace HCC := Lib.hid (stayC ho1 hR1 HCC.out))); clear ho1; replace H1 := Lib.hid H1)
    | (go_at_call 56; refine (k_sign H1.out _).mono ?_; clear H1; rintro e w1 ⟨rfl, H1, ho1⟩; (try (replace HB3 := Lib.hid (stayB ho1 HB3.out hB3n))); (try (replace HCN := Lib.hid (stayC ho1 hR1 HCN.out))); (try (replace HCC := Lib.hid (stayC ho1 hR1 HCC.out))); clear ho1; replace H1 := Lib.hid H1)
    | (go_at_call 59; refine (k_take H1.out (sW tData) (sortFit (by decide) (by decide)) (by decide) rfl rfl HA.out).mono ?_; clear HA; clear H1; rintro e w1 ⟨rfl, H1, ho1⟩; clear ho1; replace H1 := Lib.hid H1)
    | (go_at_call 59; refine (k_take H1.out sCon (sortFit (by decide) (by decide)) (by decide) rfl rfl HA2.out).mono ?_; clear HA2; clear H1; rintro e w3 ⟨rfl, H1, ho1⟩; have hB3l := H1.size; have hB3n : w3.heap.size ≠ R := (by have : R < w3.heap.size := H1.rd.lt; omega); have hB3r : w3.heap.size ≠ W.heap.size := (by omega); have HB3 := Lib.hid (Box.new w3 93 [.int .i64 (A2.1.k : Int), .int .i64 (A2.1.p : Int), .string (strB A2.1.s), .int .i64 (A2.1.n : Int)]); clear ho1; replace H1 := Lib.hid (H1.alloc (.cells #[.int .i64 (A2.1.k : Int), .int .i64 (A2.1.p : Int), .string (strB A2.1.s), .int .i64 (A2.1.n : Int)] 93)))
    | (go_at_call 99; refine (k_names H1.out HM.out).mono ?_; clear HM; clear H1; rw [HL.out]; rintro e w1 ⟨a1, cp1, rfl, hc1, hn1, H1, ho1⟩; (try (replace HB3 := Lib.hid (stayB ho1 HB3.out hB3n))); (try (replace HCN := Lib.hid (stayC ho1 hR1 HCN.out))); (try (replace HCC := Lib.hid (stayC ho1 hR1 HCC.out))); have HCN := Lib.hid hc1; clear ho1 hc1 hn1; replace H1 := Lib.hid H1)
    | (go_at_call 100; refine (z_places w1 M.1 a1 L cp1 HL.out HML.out HMF.out (by rw [HL.out]; exact HCN.out)).mono ?_; rintro e w5 ⟨MM, nm, DD, rfl, hMM, hom, hvi, hb5⟩; have hRw1 : R < w1.heap.size := H1.out.rd.lt; have hMR : MM ≠ R := (by omega); have hMMl : W.heap.size < MM := (by have := H1.out.out.size; omega); have ho1 : Out (fun b => b = R) w1 w5 := Out.of_below hb5; (try (replace HB3 := Lib.hid (stayB ho1 HB3.out hB3n))); (try (replace HCN := Lib.hid (stayC ho1 hR1 HCN.out))); (try (replace HCC := Lib.hid (stayC ho1 hR1 HCC.out))); replace H1 := Lib.hid (H1.out.under hb5); obtain ⟨ra, rcp, hrb, _, _⟩ := H1.out.rd.box; have hbx6 := six_cells hrb; have hbf6 := six_frozen hrb; dsimp only at hbx6 hbf6; obtain ⟨_, _, _, _, _, _⟩ := hbx6; obtain ⟨_, _, _, _, _, _⟩ := hbf6; clear hrb; have hRw5 : R < w5.heap.size := H1.out.rd.lt; replace H1 := Lib.hid (H1.out.revar hom hvi hMR); have ho1 := (Out.refl (fun b => b = R) w5).set1 3 (.map (some MM)); (try (replace HB3 := Lib.hid (stayB ho1 HB3.out hB3n))); (try (replace HCN := Lib.hid (stayC ho1 hR1 HCN.out))); (try (replace HCC := Lib.hid (stayC ho1 hR1 HCC.out))); clear ho1 hom hvi hb5)
    | (go_at_call 59; refine (k_take H1.out (sS tEq) (sortFit (by decide) (by decide)) (by decide) rfl rfl HD.out).mono ?_; clear HD; clear H1; rintro e w1 ⟨rfl, H1, ho1⟩; (try (replace HB3 := Lib.hid (stayB ho1 HB3.out hB3n))); (try (replace HCN := Lib.hid (stayC ho1 hR1 HCN.out))); (try (replace HCC := Lib.hid (stayC ho1 hR1 HCC.out))); clear ho1; replace H1 := Lib.hid H1)
    | (go_at_call 101; refine (k_rowC (c := Cx.mk R En B (.map (some MM)) M.1) (one := conF En M.1 n) (most := many) (fun W0 W τ hc hl => k_con hc (Nat.le_of_lt_succ hl) rfl) (conF_len En M.1 n) H1.out hDl tBar (by decide) rfl (by decide) (by decide) HY.out).mono ?_; clear HY H1; rintro e w1 ⟨a4, cp4, rfl, hcl, H1, ho1⟩; (try (replace HB3 := Lib.hid (stayB ho1 HB3.out hB3n))); (try (replace HCN := Lib.hid (stayC ho1 hR1 HCN.out))); (try (replace HCC := Lib.hid (stayC ho1 hR1 HCC.out))); clear ho1; have HCC := Lib.hid hcl; clear hcl; replace H1 := Lib.hid H1)
    | (go_at_call 59; refine (k_take H1.out (sS tSemi) (sortFit (by decide) (by decide)) (by decide) rfl rfl HF.out).mono ?_; clear HF; clear H1; rintro e w1 ⟨rfl, H1, ho1⟩; (try (replace HB3 := Lib.hid (stayB ho1 HB3.out hB3n))); (try (replace HCN := Lib.hid (stayC ho1 hR1 HCN.out))); (try (replace HCC := Lib.hid (stayC ho1 hR1 HCC.out))); obtain ⟨_, _, _, _⟩ := four_cells HB3.out; have hcl3 := HB3.out.lt; have hb4 := H1.box (Box.new W 56 [.string ⟨#[]⟩, .int .i64 0, .slice none 0 0, .slice none 0 0]) (show ¬ (_ = R) by omega); obtain ⟨_, _, _, _⟩ := four_cells hb4; obtain ⟨_, _, _, _⟩ := four_frozen hb4; clear hb4; clear ho1; replace H1 := Lib.hid H1))
  refine bodyPost_ret (v := .agg #[.string (strB A2.1.s), .int .i64 (A2.1.p : Int), .slice a1 L cp1, .slice a4 Y.1.length cp4]) (by simp only [results, Try.results58]; go_simp <;> rfl) rfl ?_
  have hnb : Nb W.heap.size w1 ((((w1.setCell ⟨W.heap.size, 0, none⟩ (.string (strB A2.1.s))).setCell ⟨W.heap.size, 1, none⟩ (.int .i64 (A2.1.p : Int))).setCell ⟨W.heap.size, 2, none⟩ (.slice a1 L cp1)).setCell ⟨W.heap.size, 3, none⟩ (.slice a4 Y.1.length cp4)) := by
    repeat (first | with_reducible exact Nb.refl _ _ | with_reducible refine Nb.set ?_ _ _)
  have hOut := fin_out H1.out.out hnb
  have hBW : B < W.heap.size := by obtain ⟨_, _, hm, _⟩ := H0.out.rd.beg; exact ownsMap_lt hm
  have hrd : RD (Cx.mk R En B (.map (some MM)) M.1) _ F.2 := H1.out.rd.nb hnb hR0 (show B ≠ _ by omega) (fun m e => by cases e; have := hMMl; omega)
  rw [HQ.out]
  exact ⟨_, _, _, rfl, finV H0.out.size (IsV.of_dt (s := A2.1.s) (p := (A2.1.p : Int)) (vars := M.1) (cons := Y.1) (show InC _ _ (.s M.1.length 1 (strsC M.1)) _ from by rw [HL.out]; exact HCN.out) HCC.out) hnb, ⟨hrd, H0.out.out.trans hOut, H0.out.lt⟩, hOut, fun m e => by cases e; omega⟩

end Go.Proofs.Ytccilgemfkdmkaa

namespace Go.Proofs.Ytccilgemfkdmkaa
open Go.RowKit Go.Maps
set_option linter.unusedVariables false
set_option linter.unusedSimpArgs false

theorem Try.zinfoD : (Try.prog.info? 56).map (fun i => (i.zero, i.size, i.bytes)) = some (some (.agg #[.string ⟨#[]⟩, .int .i64 0, .slice none 0 0, .slice none 0 0]), 4, 72) := by kernel_rfl
theorem Try.zinfoB : (Try.prog.info? 45).map (fun i => (i.zero, i.size, i.bytes)) = some (some (.agg #[.string ⟨#[]⟩, .int .i64 0, .int .i64 0, .int .i64 0, .string ⟨#[]⟩, .int .i64 0, .slice none 0 0, .slice none 0 0]), 8, 112) := by kernel_rfl
theorem step_plainz {P : Program} {ops : Array Oper} {o : Oper} {a : Act} {w : World} {K : Act → World → Prop} {Q : Exit → Act → World → Prop} {E : Prop} (hgd : o.guard = none) (h : Oper.wp P o a w K Q) : if Region.wanted o (yielded ops a.tmps) = true then Oper.wp P o a w K Q else E := by
  rw [if_pos (by simp [Region.wanted, hgd])]; exact h
/-- The program as it grows: its own variable, two rows, each apart from the other and from all trees. -/
structure PGW (W1 : World) (B3 : Nat) (w : World) (v1 v2 : Value) (p : Pg) (us1 us2 : List Value) : Prop where
  box : Box w B3 28 [v1, v2]
  r1 : w.ownsRow (B3 + 1) 56 4 v1 p.datas.length us1
  r2 : w.ownsRow (B3 + 1) 45 8 v2 p.binds.length us2
  i1 : InS (fun b => New W1 b ∧ b ≠ B3 ∧ v1.ownBlock ≠ some b ∧ v2.ownBlock ≠ some b) w (p.datas.flatMap dtC) us1
  i2 : InS (fun b => New W1 b ∧ b ≠ B3 ∧ v1.ownBlock ≠ some b ∧ v2.ownBlock ≠ some b) w (p.binds.flatMap bdC) us2
  ne : ∀ q, v1.ownBlock = some q → v2.ownBlock ≠ some q
theorem PGW.out {W1 w w' : World} {B3 R : Nat} {v1 v2 : Value} {p : Pg} {us1 us2 : List Value} (h : PGW W1 B3 w v1 v2 p us1 us2) (ho : Out (fun b => b = R) w w') (hR : R < W1.heap.size) (hB : W1.heap.size ≤ B3) : PGW W1 B3 w' v1 v2 p us1 us2 := by
  have key : ∀ b, b < w.heap.size → (New W1 b ∧ b ≠ B3 ∧ v1.ownBlock ≠ some b ∧ v2.ownBlock ≠ some b) → ¬ b = R := fun b _ hb e => by have := hb.1; unfold New at this; omega
  exact ⟨ho.box h.box (by show ¬ _; omega), own_out h.r1 ho (by omega), own_out h.r2 ho (by omega), h.i1.out ho key, h.i2.out ho key, h.ne⟩
theorem PGW.lt {W1 w : World} {B3 : Nat} {v1 v2 : Value} {p : Pg} {us1 us2 : List Value} (h : PGW W1 B3 w v1 v2 p us1 us2) : (∀ q, v1.ownBlock = some q → B3 + 1 ≤ q ∧ q < w.heap.size) ∧ ∀ q, v2.ownBlock = some q → B3 + 1 ≤ q ∧ q < w.heap.size := ⟨ownsRow_lo h.r1, ownsRow_lo h.r2⟩
/-- A declaration of data more: w4 the world behind the call, a block o for the literal, then append, then the store. -/
theorem PGW.data {W1 W2 w4 w9 : World} {B3 g cap : Nat} {v1 v2 : Value} {p : Pg} {us1 us2 vs : List Value} {d : Dt} {o : Obj} (h : PGW W1 B3 w4 v1 v2 p us1 us2) (hd : InS (New W2) w4 (dtC d) vs) (hW2 : W1.heap.size ≤ W2.heap.size) (hB3 : B3 < W2.heap.size) (h1 : ∀ q, v1.ownBlock = some q → q < W2.heap.size) (h2 : ∀ q, v2.ownBlock = some q → q < W2.heap.size)
    (hown : w9.ownsRow (B3 + 1) 56 4 (.slice (some ⟨g, 0, none⟩) (p.datas.length + 1) cap) (p.datas.length + 1) (us1 ++ vs)) (hg : (w4.alloc o).grownBy w9 v1.ownBlock) (hat : v1.ownBlock = some g ∨ g = w4.heap.size + 1) :
    PGW W1 B3 (w9.setCell ⟨B3, 0, none⟩ (.slice (some ⟨g, 0, none⟩) (p.datas.length + 1) cap)) (.slice (some ⟨g, 0, none⟩) (p.datas.length + 1) cap) v2 ⟨p.datas ++ [d], p.binds⟩ (us1 ++ vs) us2 := by
  have hsz : (w4.alloc o).heap.size = w4.heap.size + 1 := by simp
  have hlt := h.lt
  have hbl : B3 < w4.heap.size := h.box.lt
  have hs9 := hg.size
  have hgB : g ≠ B3 := by rcases hat with e | e
                          · have := (hlt.1 g e).1; omega
                          · omega
  have hg2 : v2.ownBlock ≠ some g := by rcases hat with e | e
                                        · exact h.ne g e
                                        · intro q; have := (hlt.2 g q).2; omega
  have blk : ∀ b, b < w4.heap.size → v1.ownBlock ≠ some b → w9.heap[b]? = w4.heap[b]? := fun b hb hn => (hg.block b (by omega) (fun q => hn q.symm)).trans (Below.heap_alloc w4 o b hb)
  have blk2 : ∀ b, b ≠ B3 → (w9.setCell ⟨B3, 0, none⟩ (.slice (some ⟨g, 0, none⟩) (p.datas.length + 1) cap)).heap[b]? = w9.heap[b]? := fun b hb => Below.heap_setCell w9 ⟨B3, 0, none⟩ _ b hb
  have hnB : v1.ownBlock ≠ some B3 := fun q => by have := (hlt.1 B3 q).1; omega
  have hnB2 : v2.ownBlock ≠ some B3 := fun q => by have := (hlt.2 B3 q).1; omega
  have key : ∀ b, b < w4.heap.size → (New W1 b ∧ b ≠ B3 ∧ v1.ownBlock ≠ some b ∧ v2.ownBlock ≠ some b) → (New W1 b ∧ b ≠ B3 ∧ (Value.slice (some ⟨g, 0, none⟩) (p.datas.length + 1) cap).ownBlock ≠ some b ∧ v2.ownBlock ≠ some b) ∧ (w9.setCell ⟨B3, 0, none⟩ (.slice (some ⟨g, 0, none⟩) (p.datas.length + 1) cap)).heap[b]? = w4.heap[b]? := by
    rintro b hb ⟨q1, q2, q3, q4⟩
    refine ⟨⟨q1, q2, fun q => ?_, q4⟩, (blk2 b q2).trans (blk b hb q3)⟩
    have e1 : g = b := Option.some.inj q
    rcases hat with e | e
    · rw [e1] at e; exact q3 e
    · omega
  have hss : w4.heap.size ≤ (w9.setCell ⟨B3, 0, none⟩ (.slice (some ⟨g, 0, none⟩) (p.datas.length + 1) cap)).heap.size := by simp; omega
  refine ⟨?_, ?_, ?_, ?_, ?_, ?_⟩
  · have hb9 : Box w9 B3 28 [v1, v2] := (blk B3 hbl hnB).trans h.box
    exact hb9.set 0 _
  · have := own_agree hown (w' := w9.setCell ⟨B3, 0, none⟩ (.slice (some ⟨g, 0, none⟩) (p.datas.length + 1) cap)) fun q hq => blk2 q (by have e1 : g = q := Option.some.inj hq; omega)
    simpa using this
  · exact own_agree h.r2 fun q hq => by
      have := hlt.2 q hq
      exact (blk2 q (by omega)).trans (blk q this.2 (fun e => h.ne q e hq))
  · have e : (p.datas ++ [d]).flatMap dtC = p.datas.flatMap dtC ++ dtC d := by simp
    show InS _ _ ((p.datas ++ [d]).flatMap dtC) _
    rw [e]
    exact InS.app (h.i1.agree (fun b q1 q2 => key b q2 q1) hss) (hd.agree (fun b q1 q2 => key b q2 (by
      unfold New at q1 ⊢
      refine ⟨by omega, by omega, fun q => ?_, fun q => ?_⟩
      · have := h1 b q; omega
      · have := h2 b q; omega)) hss)
  · exact h.i2.agree (fun b q1 q2 => key b q2 q1) hss
  · intro q hq e
    have e1 : g = q := Option.some.inj hq
    exact hg2 (e1 ▸ e)
/-- A Bind more. -/
theorem PGW.bind {W1 W2 w4 w9 : World} {B3 g cap : Nat} {v1 v2 : Value} {p : Pg} {us1 us2 vs : List Value} {d : Bd} {o : Obj} (h : PGW W1 B3 w4 v1 v2 p us1 us2) (hd : InS (New W2) w4 (bdC d) vs) (hW2 : W1.heap.size ≤ W2.heap.size) (hB3 : B3 < W2.heap.size) (h1 : ∀ q, v1.ownBlock = some q → q < W2.heap.size) (h2 : ∀ q, v2.ownBlock = some q → q < W2.heap.size)
    (hown : w9.ownsRow (B3 + 1) 45 8 (.slice (some ⟨g, 0, none⟩) (p.binds.length + 1) cap) (p.binds.length + 1) (us2 ++ vs)) (hg : (w4.alloc o).grownBy w9 v2.ownBlock) (hat : v2.ownBlock = some g ∨ g = w4.heap.size + 1) :
    PGW W1 B3 (w9.setCell ⟨B3, 1, none⟩ (.slice (some ⟨g, 0, none⟩) (p.binds.length + 1) cap)) v1 (.slice (some ⟨g, 0, none⟩) (p.binds.length + 1) cap) ⟨p.datas, p.binds ++ [d]⟩ us1 (us2 ++ vs) := by
  have hsz : (w4.alloc o).heap.size = w4.heap.size + 1 := by simp
  have hlt := h.lt
  have hbl : B3 < w4.heap.size := h.box.lt
  have hs9 := hg.size
  have hgB : g ≠ B3 := by rcases hat with e | e
                          · have := (hlt.2 g e).1; omega
                          · omega
  have hg2 : v1.ownBlock ≠ some g := by rcases hat with e | e
                                        · exact fun q => h.ne g q e
                                        · intro q; have := (hlt.1 g q).2; omega
  have blk : ∀ b, b < w4.heap.size → v2.ownBlock ≠ some b → w9.heap[b]? = w4.heap[b]? := fun b hb hn => (hg.block b (by omega) (fun q => hn q.symm)).trans (Below.heap_alloc w4 o b hb)
  have blk2 : ∀ b, b ≠ B3 → (w9.setCell ⟨B3, 1, none⟩ (.slice (some ⟨g, 0, none⟩) (p.binds.length + 1) cap)).heap[b]? = w9.heap[b]? := fun b hb => Below.heap_setCell w9 ⟨B3, 1, none⟩ _ b hb
  have hnB : v2.ownBlock ≠ some B3 := fun q => by have := (hlt.2 B3 q).1; omega
  have key : ∀ b, b < w4.heap.size → (New W1 b ∧ b ≠ B3 ∧ v1.ownBlock ≠ some b ∧ v2.ownBlock ≠ some b) → (New W1 b ∧ b ≠ B3 ∧ v1.ownBlock ≠ some b ∧ (Value.slice (some ⟨g, 0, none⟩) (p.binds.length + 1) cap).ownBlock ≠ some b) ∧ (w9.setCell ⟨B3, 1, none⟩ (.slice (some ⟨g, 0, none⟩) (p.binds.length + 1) cap)).heap[b]? = w4.heap[b]? := by
    rintro b hb ⟨q1, q2, q3, q4⟩
    refine ⟨⟨q1, q2, q3, fun q => ?_⟩, (blk2 b q2).trans (blk b hb q4)⟩
    have e1 : g = b := Option.some.inj q
    rcases hat with e | e
    · rw [e1] at e; exact q4 e
    · omega
  have hss : w4.heap.size ≤ (w9.setCell ⟨B3, 1, none⟩ (.slice (some ⟨g, 0, none⟩) (p.binds.length + 1) cap)).heap.size := by simp; omega
  refine ⟨?_, ?_, ?_, ?_, ?_, ?_⟩
  · have hb9 : Box w9 B3 28 [v1, v2] := (blk B3 hbl hnB).trans h.box
    exact hb9.set 1 _
  · exact own_agree h.r1 fun q hq => by
      have := hlt.1 q hq
      exact (blk2 q (by omega)).trans (blk q this.2 (fun e => h.ne q hq e))
  · have := own_agree hown (w' := w9.setCell ⟨B3, 1, none⟩ (.slice (some ⟨g, 0, none⟩) (p.binds.length + 1) cap)) fun q hq => blk2 q (by have e1 : g = q := Option.some.inj hq; omega)
    simpa using this
  · exact h.i1.agree (fun b q1 q2 => key b q2 q1) hss
  · have e : (p.binds ++ [d]).flatMap bdC = p.binds.flatMap bdC ++ bdC d := by simp
    show InS _ _ ((p.binds ++ [d]).flatMap bdC) _
    rw [e]
    exact InS.app (h.i2.agree (fun b q1 q2 => key b q2 q1) hss) (hd.agree (fun b q1 q2 => key b q2 (by
      unfold New at q1 ⊢
      refine ⟨by omega, by omega, fun q => ?_, fun q => ?_⟩
      · have := h1 b q; omega
      · have := h2 b q; omega)) hss)
  · intro q hq e
    have e1 : g = q := Option.some.inj e
    exact hg2 (e1 ▸ hq)

end Go.Proofs.Ytccilgemfkdmkaa

namespace Go.Proofs.Ytccilgemfkdmkaa
open Go.RowKit Go.Maps
set_option linter.unusedVariables false
set_option linter.unusedSimpArgs false

theorem IsV.dts {S : Nat → Prop} {w : World} {v : Value} {d : Dt} (h : IsV S w (dtC d) v) : ∃ (s : By) (p : Int) (a a' : Option Addr) (m m' cp cp' : Nat), v = .agg #[.string (strB s), .int .i64 p, .slice a m cp, .slice a' m' cp'] := by
  obtain ⟨us, rfl, h⟩ := h
  unfold dtC at h
  obtain ⟨u0, r0, rfl, l0⟩ := three_cons (n := 3) h.1
  obtain ⟨u1, r1, rfl, l1⟩ := three_cons (n := 2) l0
  obtain ⟨u2, r2, rfl, l2⟩ := three_cons (n := 1) l1
  obtain ⟨u3, r3, rfl, l3⟩ := three_cons (n := 0) l2
  obtain rfl := List.eq_nil_of_length_eq_zero l3
  obtain rfl := h.head.val
  obtain rfl := h.tail.head.val
  obtain ⟨a, cp, rfl, _, _⟩ := h.tail.tail.head.slice
  obtain ⟨a', cp', rfl, _, _⟩ := h.tail.tail.tail.head.slice
  exact ⟨_, _, a, a', _, _, cp, cp', rfl⟩
theorem IsV.of_pg {S : Nat → Prop} {w : World} {p : Pg} {a b : Value} (h : InC S w (.s p.datas.length 4 (p.datas.flatMap dtC)) a) (h' : InC S w (.s p.binds.length 8 (p.binds.flatMap bdC)) b) : IsV S w (pgC p) (.agg #[a, b]) :=
  ⟨[_, _], rfl, InS.cons h (InS.cons h' InS.nil)⟩
theorem dataF_lt {En n : Nat} {σ : PS} (h : σ.sees (sW tData) = true) : (dataF En n σ).2.ts.length < σ.ts.length := by
  have e1 := take_lt (En := En) h (show (sW tData).k ≠ 0 by decide)
  obtain ⟨a, ha⟩ : ∃ a, σ.take En (sW tData) = a := ⟨_, rfl⟩
  rw [ha] at e1
  have e2 := take_len En a.2 sCon
  obtain ⟨b, hb⟩ : ∃ b, a.2.take En sCon = b := ⟨_, rfl⟩
  rw [hb] at e2
  have e3 := names_len b.2
  obtain ⟨m, hm⟩ : ∃ m, b.2.names = m := ⟨_, rfl⟩
  rw [hm] at e3
  have e4 := take_len En m.2 (sS tEq)
  obtain ⟨c, hc⟩ : ∃ c, m.2.take En (sS tEq) = c := ⟨_, rfl⟩
  rw [hc] at e4
  have e5 := rowsF_len (sep := sS tBar) (most := many) (conF_len En m.1 n) c.2
  obtain ⟨r, hr⟩ : ∃ r, rowsF (sS tBar) many (conF En m.1 n) c.2 = r := ⟨_, rfl⟩
  rw [hr] at e5
  have e6 := take_len En r.2 (sS tSemi)
  have e : dataF En n σ = (⟨b.1.s, b.1.p, m.1, r.1⟩, (r.2.take En (sS tSemi)).2) := by
    unfold dataF
    simp only [ha, hb, hm, hc, hr]
  rw [e]
  show (r.2.take En (sS tSemi)).2.ts.length < _
  omega
theorem topF_lt {En n : Nat} {σ : PS} (h : σ.ts ≠ []) (hk : σ.st = true → σ.ts = []) : (topF En n σ).2.ts.length < σ.ts.length := by
  have h1 : (σ.take En (sW tLet)).2.ts.length < σ.ts.length := by
    by_cases hs : σ.sees (sW tLet) = true
    · exact take_lt hs (by decide)
    · unfold PS.take; rw [if_neg hs]
      show (σ.stop En).ts.length < _
      rw [stop_lt hk]
      exact List.length_pos_iff.2 h
  exact Nat.lt_of_le_of_lt (Nat.le_trans (take_len _ _ _) (bindF_len (exprF_len En n) _)) h1
theorem programL_data {En n f : Nat} {p : Pg} {τ : PS} (hf : τ.ts.length ≤ f) (h0 : τ.ts ≠ []) (h1 : τ.sees (sW tData) = true) :
    ∃ f', programL En n f p τ = programL En n f' ⟨p.datas ++ [(dataF En n τ).1], p.binds⟩ (dataF En n τ).2 ∧ (dataF En n τ).2.ts.length ≤ f' ∧ (dataF En n τ).2.ts.length < τ.ts.length := by
  have h3 := dataF_lt (En := En) (n := n) h1
  obtain ⟨f', rfl⟩ : ∃ f', f = f' + 1 := ⟨f - 1, by omega⟩
  exact ⟨f', by rw [programL, if_neg h0, if_pos h1], by omega, h3⟩
theorem programL_top {En n f : Nat} {p : Pg} {τ : PS} (hf : τ.ts.length ≤ f) (h0 : τ.ts ≠ []) (hk : τ.st = true → τ.ts = []) (h1 : τ.sees (sW tData) = false) :
    ∃ f', programL En n f p τ = programL En n f' ⟨p.datas, p.binds ++ [(topF En n τ).1]⟩ (topF En n τ).2 ∧ (topF En n τ).2.ts.length ≤ f' ∧ (topF En n τ).2.ts.length < τ.ts.length := by
  have h3 := topF_lt (En := En) (n := n) h0 hk
  obtain ⟨f', rfl⟩ : ∃ f', f = f' + 1 := ⟨f - 1, by omega⟩
  exact ⟨f', by rw [programL, if_neg h0, if_neg (by rw [h1]; decide)], by omega, h3⟩
theorem programL_end {En n f : Nat} {p : Pg} {τ : PS} (h : τ.ts = []) : programL En n f p τ = (p, τ) := by
  cases f with
  | zero => rfl
  | succ f => rw [programL, if_pos h]
theorem two_cells {w : World} {b : Nat} {t : TypeId} {c0 c1 : Value} (h : Box w b t [c0, c1]) : w.cell? ⟨b, 0, none⟩ = some c0 ∧ w.cell? ⟨b, 1, none⟩ = some c1 ∧ w.frozen? ⟨b, 0, none⟩ = false ∧ w.frozen? ⟨b, 1, none⟩ = false := ⟨h.cell 0, h.cell 1, h.frozen 0, h.frozen 1⟩
theorem Car.putB {c : Cx} {W1 w w' : World} {σ : PS} {g : Nat} (h : Car c W1 w σ) (hn : Nb g w w') (hg : W1.heap.size ≤ g) (hR : c.R < g) (hB : c.B ≠ g) (hV : ∀ M, c.vv = .map (some M) → M ≠ g) : Car c W1 w' σ :=
  ⟨h.rd.nb hn hR hB hV, ⟨hn.os.trans h.out.os, hn.tape.trans h.out.tape, hn.output.trans h.out.output, Nat.le_trans h.out.size hn.size, fun k hk hne => (hn.block k (Nat.lt_of_lt_of_le hk h.out.size) (by omega)).trans (h.out.block k hk hne)⟩, h.lt⟩
theorem vmap_data {B3 Ws g cap m M w2 w4 : Nat} {v1 v2 : Value} (h : w2 ≤ M ∧ M < w4) (hB : B3 < w2) (hW : Ws < B3) (h1 : ∀ q, v1.ownBlock = some q → q < w2) (h2 : ∀ q, v2.ownBlock = some q → q < w2) (hat : v1.ownBlock = some g ∨ g = w4 + 1) :
    M ≠ B3 ∧ M ≠ Ws ∧ (Value.slice (some ⟨g, 0, none⟩) m cap).ownBlock ≠ some M ∧ v2.ownBlock ≠ some M := by
  refine ⟨by omega, by omega, fun q => ?_, fun q => by have := h2 M q; omega⟩
  have e1 : g = M := Option.some.inj q
  rcases hat with e | e
  · have := h1 g e; omega
  · omega
theorem vmap_bind {B3 Ws g cap m M w4 : Nat} {v1 v2 : Value} (h : M < w4) (h3 : M ≠ B3 ∧ M ≠ Ws ∧ v1.ownBlock ≠ some M ∧ v2.ownBlock ≠ some M) (hat : v2.ownBlock = some g ∨ g = w4 + 1) :
    M ≠ B3 ∧ M ≠ Ws ∧ v1.ownBlock ≠ some M ∧ (Value.slice (some ⟨g, 0, none⟩) m cap).ownBlock ≠ some M := by
  refine ⟨h3.1, h3.2.1, h3.2.2.1, fun q => ?_⟩
  have e1 : g = M := Option.some.inj q
  rcases hat with e | e
  · rw [e1] at e; exact h3.2.2.2 e
  · omega
theorem RD.vlt {c : Cx} {w : World} {σ : PS} (h : RD c w σ) : ∀ M, c.vv = .map (some M) → M < w.heap.size := fun M e => by
  rcases h.vars with ⟨e2, _⟩ | ⟨M2, _, _, e2, _, hm, _⟩
  · rw [e2] at e; cases e
  · rw [e2] at e; cases e; exact ownsMap_lt hm
theorem RD.grownB {c : Cx} {w w' : World} {σ : PS} {row : Option Nat} (h : RD c w σ) (hg : w.grownBy w' row) (hr : ∀ q, row = some q → c.R < q ∧ c.B ≠ q ∧ ∀ M, c.vv = .map (some M) → M ≠ q) : RD c w' σ := by
  cases row with
  | none => exact h.under ⟨hg.os, hg.tape, hg.output, hg.size, fun k hk => hg.block k hk (by simp)⟩
  | some q =>
    obtain ⟨h1, h2, h3⟩ := hr q rfl
    exact h.nb ⟨hg.os, hg.tape, hg.output, hg.size, fun k hk hn => hg.block k hk (fun e => hn (Option.some.inj e))⟩ h1 h2 h3
theorem Car.grownB {c : Cx} {W1 w w' : World} {σ : PS} {row : Option Nat} (h : Car c W1 w σ) (hg : w.grownBy w' row) (hr : ∀ q, row = some q → W1.heap.size ≤ q ∧ c.B ≠ q ∧ ∀ M, c.vv = .map (some M) → M ≠ q) : Car c W1 w' σ :=
  ⟨h.rd.grownB hg fun q e => ⟨by have := (hr q e).1; have := h.lt; omega, (hr q e).2⟩, h.out.grown hg fun q e => .inr (hr q e).1, h.lt⟩

end Go.Proofs.Ytccilgemfkdmkaa

namespace Go.Proofs.Ytccilgemfkdmkaa
open Go.RowKit Go.Maps
set_option linter.unusedVariables false
set_option linter.unusedSimpArgs false

set_option maxRecDepth 100000 in
set_option maxHeartbeats 4000000 in
theorem k_program {R En B n : Nat} {vv : Value} {vs : List By} {W0 W : World} {σ : PS} (h : Car (Cx.mk R En B vv vs) W0 W σ) (hlen : σ.ts.length < n) {P : Pg × PS} (hP : programF En n σ = P) :
    Calls Try.prog 26 #[.pointer (some ⟨R, 0, none⟩)] W fun e w' => ∃ v vv' vs', e = .returned v ∧ IsV (New W0) w' (pgC P.1) v ∧ Car (Cx.mk R En B vv' vs') W0 w' P.2 ∧ Out (fun b => b = R) W w' := by
  obtain ⟨i0, hi0, hz0, hz1, hz2⟩ := info_parts Try.zinfoD
  obtain ⟨j0, hj0, hy0, hy1, hy2⟩ := info_parts Try.zinfoB
  have hR0 : R < W.heap.size := h.rd.lt
  have hR1 : R < (W.alloc (.cells #[.slice none 0 0, .slice none 0 0] 28)).heap.size := by simp; omega
  have hWs : (W.alloc (.cells #[.slice none 0 0, .slice none 0 0] 28)).heap.size = W.heap.size + 1 := by simp
  have hlen6 := h.rd.len
  have hBW : B < W.heap.size := by obtain ⟨_, _, hm, _⟩ := h.rd.beg; exact ownsMap_lt hm
  have hVW : ∀ M, vv = .map (some M) → M < W.heap.size := fun M e => by
    rcases h.rd.vars with ⟨e2, _⟩ | ⟨M2, _, _, e2, _, hm, _⟩
    · rw [show vv = _ from e2] at e; cases e
    · rw [show vv = _ from e2] at e; cases e; exact ownsMap_lt hm
  have HP : Hid (programL En n σ.ts.length ⟨[], []⟩ σ = P) := Lib.hid hP
  have H0 := Lib.hid h
  have H1 : Hid (Car (Cx.mk R En B vv vs) (W.alloc (.cells #[.slice none 0 0, .slice none 0 0] 28)) ((W.alloc (.cells #[.slice none 0 0, .slice none 0 0] 28)).alloc (.cells #[.slice none 0 0, .slice none 0 0] 28)) σ) := (h.begin _).alloc _
  have HV0 : Hid (∀ M, vv = .map (some M) → M ≠ W.heap.size + 1 ∧ M ≠ W.heap.size ∧ (Value.slice none 0 0).ownBlock ≠ some M ∧ (Value.slice none 0 0).ownBlock ≠ some M) := fun M e => ⟨by have := hVW M e; omega, by have := hVW M e; omega, by simp [Value.ownBlock], by simp [Value.ownBlock]⟩
  have HPG : Hid (PGW (W.alloc (.cells #[.slice none 0 0, .slice none 0 0] 28)) (W.heap.size + 1) ((W.alloc (.cells #[.slice none 0 0, .slice none 0 0] 28)).alloc (.cells #[.slice none 0 0, .slice none 0 0] 28)) (.slice none 0 0) (.slice none 0 0) ⟨[], []⟩ [] []) := by
    have hb := Box.new (W.alloc (.cells #[.slice none 0 0, .slice none 0 0] 28)) 28 [.slice none 0 0, .slice none 0 0]
    rw [hWs] at hb
    exact ⟨hb, World.ownsRow_nil _ _ _ _, World.ownsRow_nil _ _ _ _, InS.nil, InS.nil, fun q hq => by cases hq⟩
  clear h hP hVW
  go_enter Try.func26, Try.ntmps26
  go_wp2_with fail
  obtain ⟨W1, hW1⟩ : ∃ W1, W.alloc (.cells #[.slice none 0 0, .slice none 0 0] 28) = W1 := ⟨_, rfl⟩
  rw [hW1] at H1 hR1 hWs HPG ⊢
  have HW1 := Lib.hid hW1
  clear hW1
  obtain ⟨B3, hB3⟩ : ∃ B3, W.heap.size + 1 = B3 := ⟨_, rfl⟩
  rw [hB3] at HPG HV0 hWs ⊢
  have HB3 := Lib.hid hB3
  clear hB3
  have hB3l : W1.heap.size ≤ B3 := by omega
  have hB3r : B3 ≠ W.heap.size := by have := HB3.out; omega
  have hWB3 : W.heap.size < B3 := by have := HB3.out; omega
  go_loopg [] (σ.ts.length) (fun gn wr => ∃ (p : Pg) (τ : PS) (vv : Value) (vs : List By) (v1 v2 : Value) (us1 us2 : List Value) (f : Nat), Hid (Car (Cx.mk R En B vv vs) W1 wr τ) ∧ Hid (PGW W1 B3 wr v1 v2 p us1 us2) ∧ Hid (programL En n f p τ = P) ∧ Hid (∀ M, vv = .map (some M) → M ≠ B3 ∧ M ≠ W.heap.size ∧ v1.ownBlock ≠ some M ∧ v2.ownBlock ≠ some M) ∧ gn = τ.ts.length ∧ τ.ts.length ≤ f ∧ p.datas.length + p.binds.length + τ.ts.length ≤ 1000000 ∧ τ.ts.length < n)
  case atStart => exact ⟨⟨[], []⟩, σ, vv, vs, _, _, [], [], σ.ts.length, H1, HPG, HP, HV0, rfl, Nat.le_refl _, by simpa using hlen6, hlen⟩
  case round =>
    obtain ⟨p, τ, vv, vs, v1, v2, us1, us2, f, HC, HG, HL, HV, rfl, hf, hl, hn⟩ := hrel
    clear HPG HP HV0 H1
    have HLT := Lib.hid HG.out.lt
    obtain ⟨va, vc, hva⟩ := own_shape HG.out.r1
    obtain ⟨vb, vd, hvb⟩ := own_shape HG.out.r2
    obtain ⟨ra, rcp, hrb, _, _⟩ := HC.out.rd.box
    have hbx6 := (six_cells hrb).1
    dsimp only at hbx6
    have hRw : R < wr.heap.size := HC.out.rd.lt
    obtain ⟨q0, q1, q2, q3⟩ := two_cells HG.out.box
    have hB3w := HG.out.box.lt
    clear hrb
    obtain ⟨nd, hnd⟩ : ∃ nd, p.datas.length = nd := ⟨_, rfl⟩
    obtain ⟨nb, hnb⟩ : ∃ nb, p.binds.length = nb := ⟨_, rfl⟩
    have HND := Lib.hid hnd
    have HNB := Lib.hid hnb
    rw [hnd] at hva hl
    rw [hnb] at hvb hl
    clear hnd hnb
    subst hva hvb
    by_cases hts : τ.ts = []
    · have hL0 : τ.ts.length = 0 := by rw [hts]; rfl
      have HE : Hid (P = (p, τ)) := by show _ = _; rw [← HL.out]; exact programL_end hts
      rw [hL0] at hbx6
      have hbr := HC.out.out.box (show Box W1 W.heap.size 28 [.slice none 0 0, .slice none 0 0] from HW1.out ▸ Box.new W 28 [.slice none 0 0, .slice none 0 0]) (show ¬ (_ = R) by omega)
      obtain ⟨_, _, _, _⟩ := two_cells hbr
      have hWr := hbr.lt
      clear hbr hts hL0 HL hf hl hn
      go_wp2_with fail
      refine bodyPost_ret (v := .agg #[.slice va nd vc, .slice vb nb vd]) (by simp only [results, Try.results26]; go_simp <;> rfl) rfl ?_
      have hnb : Nb W.heap.size wr ((wr.setCell ⟨W.heap.size, 0, none⟩ (.slice va nd vc)).setCell ⟨W.heap.size, 1, none⟩ (.slice vb nb vd)) := ((Nb.refl _ _).set 0 _).set 1 _
      have hOut := fin_out (HW1.out ▸ HC.out.out) hnb
      have hrd : RD (Cx.mk R En B vv vs) _ τ := HC.out.rd.nb hnb hR0 (show B ≠ _ by omega) (fun m e => (HV.out m e).2.1)
      have hI1 := InC.of_owns HG.out.r1 (HG.out.i1.mono fun b _ h => h.1) (fun b hb => by have := (HLT.out.1 b hb).1; unfold New; omega) (flatC_len dtC_len _)
      have hI2 := InC.of_owns HG.out.r2 (HG.out.i2.mono fun b _ h => h.1) (fun b hb => by have := (HLT.out.2 b hb).1; unfold New; omega) (flatC_len bdC_len _)
      rw [HE.out]
      exact ⟨_, rfl, finV H0.out.size (HW1.out ▸ IsV.of_pg hI1 hI2) hnb, ⟨_, _, hrd, H0.out.out.trans hOut, H0.out.lt⟩, hOut⟩
    · have hpos : 0 < τ.ts.length := List.length_pos_iff.2 hts
      obtain ⟨N, hN⟩ : ∃ N, τ.ts.length = N := ⟨_, rfl⟩
      have HN := Lib.hid hN
      rw [hN] at hbx6 hpos hl
      have hNn : N < n := hN ▸ hn
      have hNf : N ≤ f := hN ▸ hf
      clear hN hn hf
      have hd1 : decide ((0 : Int) < (N : Int)) = true := decide_eq_true (by omega)
      have hd2 : decide (0 < N) = true := decide_eq_true hpos
      cases hs : τ.sees (sW tData) with
      | true =>
        obtain ⟨f', hf1, hf2, hf3⟩ := programL_data (En := En) (n := n) (p := p) (by rw [HN.out]; exact hNf) hts hs
        have HL2 : Hid (programL En n f' ⟨p.datas ++ [(dataF En n τ).1], p.binds⟩ (dataF En n τ).2 = P) := by show _ = _; rw [← hf1]; exact HL.out
        have HS := Lib.hid hs
        clear hs hf1 HL
        go_wp2_with (first
          | (go_at_call 55; refine (k_word HC.out _).mono ?_; clear HC; rintro e w1 ⟨rfl, HC, ho1⟩; replace HG := Lib.hid (HG.out.out ho1 hR1 hB3l); clear ho1; replace HC := Lib.hid HC)
          | (go_at_call 57; refine (k_sees HC.out (sW tData) (sortFit (by decide) (by decide)) rfl rfl HS.out).mono ?_; clear HC; rintro e w2 ⟨rfl, HC, ho1⟩; replace HG := Lib.hid (HG.out.out ho1 hR1 hB3l); clear ho1; replace HC := Lib.hid HC))
        have hlw2 := HG.out.lt
        obtain ⟨p0, p1, p2, p3⟩ := two_cells HG.out.box
        have hB3w2 := HG.out.box.lt
        have HDK := Lib.hid (k_data (R := R) (En := En) (B := B) (vv := vv) (vs := vs) (n := n) (W0 := w2) (W := w2.drew) (σ := τ) ⟨RD.drew HC.out.rd, ⟨rfl, rfl, rfl, Nat.le_refl _, fun _ _ _ => rfl⟩, HC.out.rd.lt⟩ (by rw [HN.out]; omega) rfl)
        have Q1 : Hid (nd + 1 ≤ maxLen) := by unfold maxLen; show _ ≤ _; omega
        have Q2 : Hid ((nd + 1) * 72 ≤ 140737488355328) := by show _ ≤ _; omega
        have HLW := Lib.hid hlw2
        clear hlw2
        go_region_law (first
          | (refine step_append_lies _ rfl _ _ 25 rfl (B3 + 1) 56 i0 (.agg #[.string ⟨#[]⟩, .int .i64 0, .slice none 0 0, .slice none 0 0]) 4 72 Try.underlying25 hi0 hz0 hz1 hz2 rfl (by decide) (.slice va nd vc) nd us1 rfl (HR4.out.alloc _) ⟨w4.heap.size, 0, none⟩ 1 1 [.string (strB d0), .int .i64 d1, .slice d2 d4 d6, .slice d3 d5 d7] rfl rfl (news_at (cs := [.string (strB d0), .int .i64 d1, .slice d2 d4 d6, .slice d3 d5 d7]) rfl) (by simp [Value.oneCell']) (by decide) Q1.out Q2.out Q3.out _ rfl ?_; intro g cap w9 hown9 hgrow hat hlt9; have z9 := (HG4.out.box.alloc (.cells #[.string (strB d0), .int .i64 d1, .slice d2 d4 d6, .slice d3 d5 d7] 56)).grown hgrow HnB.out; obtain ⟨z0, z1, z2, z3⟩ := two_cells z9; have hz9 := z9.lt; have HOWN := Lib.hid hown9; have HGR := Lib.hid hgrow; rw [World.size_alloc] at hat; have HAT := Lib.hid hat; clear z9 hown9 hgrow hat)
          | (refine step_plainz rfl ?_; go_simp; go_at_call 58; (with_reducible refine (HDK.out).mono ?_); rintro e w4 ⟨v, vv2, vs2, rfl, hv, hc4, ho1, hvm⟩; obtain ⟨d0, d1, d2, d3, d4, d5, d6, d7, hd9⟩ := hv.dts; subst hd9; have HG4 := Lib.hid (HG.out.out ho1.drew2 hR1 hB3l); have HC4 : Hid (Car (Cx.mk R En B vv2 vs2) W1 w4 (dataF En n τ).2) := ⟨hc4.rd, HC.out.out.trans ho1.drew2, HC.out.lt⟩; have HD4 := Lib.hid hv.cells; have HVM := Lib.hid hvm; obtain ⟨p4, p5, p6, p7⟩ := two_cells HG4.out.box; have hB3w4 := HG4.out.box.lt; have HR4 : Hid (w4.ownsRow (B3 + 1) 56 4 (.slice va nd vc) nd us1) := (by have := HG4.out.r1; rw [HND.out] at this; exact this); have Q3 : Hid (B3 + 1 ≤ (w4.alloc (.cells #[.string (strB d0), .int .i64 d1, .slice d2 d4 d6, .slice d3 d5 d7] 56)).heap.size) := (by show B3 + 1 ≤ _; rw [World.size_alloc]; omega); have HnB : Hid (some B3 ≠ (Value.slice va nd vc).ownBlock) := (fun q => by have := (HLW.out.1 B3 q.symm).1; omega); clear hv hc4 hvm))
        all_goals (have HP9 := HG4.out.data (W2 := w2) (d := (dataF En n τ).1) (vs := [.string (strB d0), .int .i64 d1, .slice d2 d4 d6, .slice d3 d5 d7]) (by simpa [Value.cells] using HD4.out) HC.out.out.size hB3w2 (fun q hq => (HLW.out.1 q hq).2) (fun q hq => (HLW.out.2 q hq).2) (by rw [HND.out]; exact HOWN.out) HGR.out HAT.out)
        all_goals (rw [HND.out] at HP9)
        all_goals (have HM4 : Hid (∀ M, vv2 = .map (some M) → w2.heap.size ≤ M ∧ M < w4.heap.size) := fun M e => ⟨HVM.out M e, HC4.out.rd.vlt M e⟩)
        all_goals (have HC9 : Hid (Car (Cx.mk R En B vv2 vs2) W1 (w9.setCell ⟨B3, 0, none⟩ (.slice (some ⟨g, 0, none⟩) (nd + 1) cap)) (dataF En n τ).2) := (((HC4.out.alloc _).grownB HGR.out (fun q hq => ⟨by have := (HLW.out.1 q hq).1; omega, by have := (HLW.out.1 q hq).1; show B ≠ q; omega, fun M e => by have := (HM4.out M e).1; have := (HLW.out.1 q hq).2; omega⟩)).putB ((Nb.refl B3 _).set 0 _) hB3l (by show R < B3; omega) (by show B ≠ B3; omega) (fun M e => by have := (HM4.out M e).1; omega)))
        all_goals (have HV9 : Hid (∀ M, vv2 = .map (some M) → M ≠ B3 ∧ M ≠ W.heap.size ∧ (Value.slice (some ⟨g, 0, none⟩) (nd + 1) cap).ownBlock ≠ some M ∧ (Value.slice vb nb vd).ownBlock ≠ some M) := fun M e => vmap_data (HM4.out M e) hB3w2 (by omega) (fun q hq => (HLW.out.1 q hq).2) (fun q hq => (HLW.out.2 q hq).2) HAT.out)
        all_goals (have HP9' := Lib.hid HP9; clear HP9)
        all_goals (clear HM4 HVM HAT HGR HOWN HD4 HC4 HG4 HDK HR4)
        all_goals go_wp2_with fail
        all_goals go_roundg (dataF En n τ).2.ts.length
        all_goals first
          | exact hf3
          | exact ⟨_, _, vv2, vs2, _, _, _, _, f', HC9, HP9', HL2, HV9, rfl, hf2, by simp [HND.out, HNB.out]; have := HN.out; omega, by have := HN.out; omega⟩
      | false =>
        have hts2 : τ.st = true → τ.ts = [] := HC.out.rd.ok
        obtain ⟨f', hf1, hf2, hf3⟩ := programL_top (En := En) (n := n) (p := p) (by rw [HN.out]; exact hNf) hts hts2 hs
        have HL2 : Hid (programL En n f' ⟨p.datas, p.binds ++ [(topF En n τ).1]⟩ (topF En n τ).2 = P) := by show _ = _; rw [← hf1]; exact HL.out
        obtain ⟨A, hA⟩ : ∃ A, τ.take En (sW tLet) = A := ⟨_, rfl⟩
        obtain ⟨D, hD⟩ : ∃ D, bindF En (exprF En n) A.2 = D := ⟨_, rfl⟩
        obtain ⟨F, hF⟩ : ∃ F, D.2.take En (sS tSemi) = F := ⟨_, rfl⟩
        have htop : topF En n τ = (D.1, F.2) := by unfold topF; simp only [hA, hD, hF]
        have hAn : A.2.ts.length < n := by rw [← hA]; exact Nat.lt_of_le_of_lt (take_len _ _ _) (by rw [HN.out]; exact hNn)
        rw [htop] at HL2 hf2 hf3
        have HA := Lib.hid hA
        have HF := Lib.hid hF
        have HBK : Hid (∀ (W0 W : World), Car (Cx.mk R En B vv vs) W0 W A.2 → Calls Try.prog 60 #[.pointer (some ⟨R, 0, none⟩)] W (Tells (Cx.mk R En B vv vs) W0 W bdC D)) := fun W0 W hc => k_bind (c := Cx.mk R En B vv vs) (k_expr (Cx.mk R En B vv vs) n) (exprF_len En n) hc hAn hD
        have HS := Lib.hid hs
        clear hs hf1 HL hA hD hF htop hts2 hts
        go_wp2_with (first
          | (go_at_call 55; refine (k_word HC.out _).mono ?_; clear HC; rintro e w1 ⟨rfl, HC, ho1⟩; replace HG := Lib.hid (HG.out.out ho1 hR1 hB3l); clear ho1; replace HC := Lib.hid HC)
          | (go_at_call 57; refine (k_sees HC.out (sW tData) (sortFit (by decide) (by decide)) rfl rfl HS.out).mono ?_; clear HC; rintro e w2 ⟨rfl, HC, ho1⟩; replace HG := Lib.hid (HG.out.out ho1 hR1 hB3l); clear ho1; replace HC := Lib.hid HC)
          | (go_at_call 59; refine (k_take HC.out (sW tLet) (sortFit (by decide) (by decide)) (by decide) rfl rfl HA.out).mono ?_; clear HC; rintro e w3 ⟨rfl, HC, ho1⟩; replace HG := Lib.hid (HG.out.out ho1 hR1 hB3l); clear ho1; replace HC := Lib.hid HC))
        have hlw2 := HG.out.lt
        obtain ⟨p0, p1, p2, p3⟩ := two_cells HG.out.box
        have hB3w2 := HG.out.box.lt
        have HDK := Lib.hid (HBK.out w3 w3.drew ⟨RD.drew HC.out.rd, ⟨rfl, rfl, rfl, Nat.le_refl _, fun _ _ _ => rfl⟩, HC.out.rd.lt⟩)
        have Q1 : Hid (nb + 1 ≤ maxLen) := by unfold maxLen; show _ ≤ _; omega
        have Q2 : Hid ((nb + 1) * 112 ≤ 140737488355328) := by show _ ≤ _; omega
        have HLW := Lib.hid hlw2
        clear hlw2 HBK
        go_region_law (first
          | (refine step_append_lies _ rfl _ _ 26 rfl (B3 + 1) 45 j0 (.agg #[.string ⟨#[]⟩, .int .i64 0, .int .i64 0, .int .i64 0, .string ⟨#[]⟩, .int .i64 0, .slice none 0 0, .slice none 0 0]) 8 112 Try.underlying26 hj0 hy0 hy1 hy2 rfl (by decide) (.slice vb nb vd) nb us2 rfl (HR4.out.alloc _) ⟨w4.heap.size, 0, none⟩ 1 1 [.string (strB D.1.s), .int .i64 D.1.p, .int .i64 x0, .int .i64 x1, .string (strB x3), .int .i64 x2, .slice x4 x6 x8, .slice x5 x7 x9] rfl rfl (news_at (cs := [.string (strB D.1.s), .int .i64 D.1.p, .int .i64 x0, .int .i64 x1, .string (strB x3), .int .i64 x2, .slice x4 x6 x8, .slice x5 x7 x9]) rfl) (by simp [Value.oneCell']) (by decide) Q1.out Q2.out Q3.out _ rfl ?_; intro g cap w9 hown9 hgrow hat hlt9; have z9 := (HG4.out.box.alloc (.cells #[.string (strB D.1.s), .int .i64 D.1.p, .int .i64 x0, .int .i64 x1, .string (strB x3), .int .i64 x2, .slice x4 x6 x8, .slice x5 x7 x9] 45)).grown hgrow HnB.out; obtain ⟨z0, z1, z2, z3⟩ := two_cells z9; have hz9 := z9.lt; have HOWN := Lib.hid hown9; have HGR := Lib.hid hgrow; rw [World.size_alloc] at hat; have HAT := Lib.hid hat; clear z9 hown9 hgrow hat)
          | (refine step_plainz rfl ?_; go_simp; go_at_call 60; (with_reducible refine (HDK.out).mono ?_); rintro e w4 ⟨v, rfl, hv, hc4, ho1⟩; obtain ⟨x0, x1, x2, x3, x4, x5, x6, x7, x8, x9, hx9, _⟩ := hv.bd; subst hx9; have HG4 := Lib.hid (HG.out.out ho1.drew2 hR1 hB3l); have HC4 : Hid (Car (Cx.mk R En B vv vs) W1 w4 D.2) := ⟨hc4.rd, HC.out.out.trans ho1.drew2, HC.out.lt⟩; have HD4 := Lib.hid hv.cells; obtain ⟨p4, p5, p6, p7⟩ := two_cells HG4.out.box; have hB3w4 := HG4.out.box.lt; have HR4 : Hid (w4.ownsRow (B3 + 1) 45 8 (.slice vb nb vd) nb us2) := (by have := HG4.out.r2; rw [HNB.out] at this; exact this); have Q3 : Hid (B3 + 1 ≤ (w4.alloc (.cells #[.string (strB D.1.s), .int .i64 D.1.p, .int .i64 x0, .int .i64 x1, .string (strB x3), .int .i64 x2, .slice x4 x6 x8, .slice x5 x7 x9] 45)).heap.size) := (by show B3 + 1 ≤ _; rw [World.size_alloc]; omega); have HnB : Hid (some B3 ≠ (Value.slice vb nb vd).ownBlock) := (fun q => by have := (HLW.out.2 B3 q.symm).1; omega); clear hv hc4))
        all_goals (have HP9 := HG4.out.bind (W2 := w3) (d := D.1) (vs := [.string (strB D.1.s), .int .i64 D.1.p, .int .i64 x0, .int .i64 x1, .string (strB x3), .int .i64 x2, .slice x4 x6 x8, .slice x5 x7 x9]) (by simpa [Value.cells] using HD4.out) HC.out.out.size hB3w2 (fun q hq => (HLW.out.1 q hq).2) (fun q hq => (HLW.out.2 q hq).2) (by rw [HNB.out]; exact HOWN.out) HGR.out HAT.out)
        all_goals (rw [HNB.out] at HP9)
        all_goals (have HM4 : Hid (∀ M, vv = .map (some M) → M < w4.heap.size) := fun M e => HC4.out.rd.vlt M e)
        all_goals (have HC9 : Hid (Car (Cx.mk R En B vv vs) W1 (w9.setCell ⟨B3, 1, none⟩ (.slice (some ⟨g, 0, none⟩) (nb + 1) cap)) D.2) := (((HC4.out.alloc _).grownB HGR.out (fun q hq => ⟨by have := (HLW.out.2 q hq).1; omega, by have := (HLW.out.2 q hq).1; show B ≠ q; omega, fun M e => fun h => (HV.out M e).2.2.2 (h ▸ hq)⟩)).putB ((Nb.refl B3 _).set 1 _) hB3l (by show R < B3; omega) (by show B ≠ B3; omega) (fun M e => (HV.out M e).1)))
        all_goals (have HV9 : Hid (∀ M, vv = .map (some M) → M ≠ B3 ∧ M ≠ W.heap.size ∧ (Value.slice va nd vc).ownBlock ≠ some M ∧ (Value.slice (some ⟨g, 0, none⟩) (nb + 1) cap).ownBlock ≠ some M) := fun M e => vmap_bind (HM4.out M e) (HV.out M e) HAT.out)
        all_goals (replace HC := HC9; replace HG := Lib.hid HP9; clear HP9 HC9)
        all_goals (obtain ⟨wz, hwz⟩ : ∃ wz, w9.setCell ⟨B3, 1, none⟩ (.slice (some ⟨g, 0, none⟩) (nb + 1) cap) = wz := ⟨_, rfl⟩)
        all_goals (rw [hwz] at HC HG ⊢)
        all_goals (clear hwz HM4 HAT HGR HOWN HD4 HC4 HG4 HDK HR4 z0 z1 z2 z3)
        all_goals go_wp2_with (first
          | (go_at_call 56; refine (k_sign HC.out _).mono ?_; clear HC; rintro e w1 ⟨rfl, HC, ho1⟩; replace HG := Lib.hid (HG.out.out ho1 hR1 hB3l); clear ho1; replace HC := Lib.hid HC)
          | (go_at_call 59; refine (k_take HC.out (sS tSemi) (sortFit (by decide) (by decide)) (by decide) rfl rfl HF.out).mono ?_; clear HC; rintro e w5 ⟨rfl, HC, ho1⟩; replace HG := Lib.hid (HG.out.out ho1 hR1 hB3l); clear ho1; replace HC := Lib.hid HC))
        all_goals go_roundg F.2.ts.length
        all_goals first
          | exact hf3
          | exact ⟨_, _, vv, vs, _, _, _, _, f', HC, HG, HL2, HV9, rfl, hf2, by simp [HND.out, HNB.out]; have := HN.out; omega, by have := HN.out; omega⟩

end Go.Proofs.Ytccilgemfkdmkaa
