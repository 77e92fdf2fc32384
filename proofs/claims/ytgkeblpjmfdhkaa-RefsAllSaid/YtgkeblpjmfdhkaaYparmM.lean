/- The document's Parse: the walk. -/
import Derived.Test.YtgkeblpjmfdhkaaYparM
import Derived.Test.YtgkeblpjmfdhkaaYtypbM
namespace Go.Proofs.Ytgkeblpjmfdhkaa
open Go.RowKit Go.Maps
set_option linter.unusedVariables false
set_option linter.unusedSimpArgs false

theorem below4 {w w' : World} {b : Nat} (h : Below b w w') (v0 v1 v2 v3 : Value) : Below b w ((((w'.setCell ⟨b, 0, none⟩ v0).setCell ⟨b, 1, none⟩ v1).setCell ⟨b, 2, none⟩ v2).setCell ⟨b, 3, none⟩ v3) :=
  (((h.setCell (p := ⟨b, 0, none⟩) (Nat.le_refl _) _).setCell (p := ⟨b, 1, none⟩) (Nat.le_refl _) _).setCell (p := ⟨b, 2, none⟩) (Nat.le_refl _) _).setCell (p := ⟨b, 3, none⟩) (Nat.le_refl _) _
theorem below_drewN {B : Nat} {w w' : World} (h : Below B w w') (n : Nat) : Below B w (w'.drewN n) := ⟨h.os, h.tape, h.output, h.size, h.block⟩
theorem isv4 {S : Nat → Prop} {w : World} {v : Value} {cs : List Cl} (h : IsV S w cs v) {b : Nat} (hb : ¬ S b) (v0 v1 v2 v3 : Value) : IsV S ((((w.setCell ⟨b, 0, none⟩ v0).setCell ⟨b, 1, none⟩ v1).setCell ⟨b, 2, none⟩ v2).setCell ⟨b, 3, none⟩ v3) cs v :=
  (((h.set (p := ⟨b, 0, none⟩) (fun _ => hb) v0).set (p := ⟨b, 1, none⟩) (fun _ => hb) v1).set (p := ⟨b, 2, none⟩) (fun _ => hb) v2).set (p := ⟨b, 3, none⟩) (fun _ => hb) v3

/-- What the first Con leaves. -/
def ConS (c : Px) (w6 V1 : World) (pb : Nat) (nm : By) (ap : Nat) (va : Option Addr) (vc : Nat) (vs : List By) (N : Nat) (r0 : Cn × PS) (wx : World) : Prop := ∃ (g cap : Nat) (xq : Cn) (us : List Value), Cay c w6 wx r0.2 ∧ GH V1 pb 56 [.string (strB nm), .int .i64 (ap : Int), .slice va N vc] [] 59 3 wx (.slice (some ⟨g, 0, none⟩) 1 cap) 1 (cnC xq) us ∧ InC (fun b => New w6 b ∧ b ≠ pb ∧ b < V1.heap.size) wx (.s N 1 (strsC vs)) (.slice va N vc) ∧ (r0.2.st = false → xq = r0.1)
theorem out_six {S : Nat → Prop} {w w' : World} (h : Out S w w') {B : Nat} (hB : w.heap.size ≤ B) (v0 v1 v2 v3 v4 v5 : Value) : Out S w ((((((w'.setCell ⟨B, 0, none⟩ v0).setCell ⟨B, 1, none⟩ v1).setCell ⟨B, 2, none⟩ v2).setCell ⟨B, 3, none⟩ v3).setCell ⟨B, 4, none⟩ v4).setCell ⟨B, 5, none⟩ v5) :=
  (((((h.setCell (.inr hB) v0).setCell (.inr hB) v1).setCell (.inr hB) v2).setCell (.inr hB) v3).setCell (.inr hB) v4).setCell (.inr hB) v5
theorem out_first {S : Nat → Prop} {w w' : World} {o : Obj} (h : Out S (w.alloc o) w') : Out S w w' :=
  (Out.of_below ((Below.refl _ w).alloc (Nat.le_refl _) o)).trans h

set_option maxRecDepth 100000 in
set_option maxHeartbeats 4000000 in
/-- A text that has something that is no token. -/
theorem y_par_lex (s : By) (w : World) (hs : s.length ≤ 65536) {i : Nat} (hx : lexL s 0 = Sum.inl i) :
    Calls Try.prog 22 #[.string (strB s)] w fun e w' => ∃ a b, e = .returned (.agg #[a, b, .int .i64 3, .int .i64 (i : Int)]) ∧ IsV (New w) w' (pgC ⟨[], []⟩) (.agg #[a, b]) ∧ Below w.heap.size w w' := by
  have HX := Lib.hid hx
  clear hx
  go_enter Try.func22, Try.ntmps22
  go_wp2_with (go_at_call 49; refine (rt_lex (strB s) _ (by rw [strB_size]; omega)).mono ?_; rintro e w2 ⟨v, E, A, rfl, hlo, hb2⟩; rw [strB_data, HX.out] at hlo; obtain ⟨rfl, rfl, rfl⟩ := hlo; have bx := (Box.new w 49 [.slice none 0 0, .slice none 0 0, .int .i64 0, .int .i64 0]).below hb2; obtain ⟨_, _, _, _⟩ := four_cells bx; obtain ⟨_, _, _, _⟩ := four_frozen bx; have hlt := bx.lt; have HB2 := Lib.hid hb2; clear hb2 bx)
  refine bodyPost_ret (v := .agg #[.slice none 0 0, .slice none 0 0, .int .i64 3, .int .i64 (i : Int)]) (by simp only [results, Try.results22]; go_simp <;> rfl) rfl ?_
  refine ⟨_, _, rfl, IsV.no_pg _ _, ?_⟩
  have h2 : Below w.heap.size w w2 := ((Below.refl _ w).alloc (Nat.le_refl _) _).trans (HB2.out.mono (by simp))
  exact ((((h2.setCell (p := ⟨w.heap.size, 0, none⟩) (Nat.le_refl _) _).setCell (p := ⟨w.heap.size, 1, none⟩) (Nat.le_refl _) _).setCell (p := ⟨w.heap.size, 2, none⟩) (Nat.le_refl _) _).setCell (p := ⟨w.heap.size, 3, none⟩) (Nat.le_refl _) _).alloc (by simp; omega) _

set_option maxRecDepth 100000 in
set_option maxHeartbeats 60000000 in
theorem y_par_main (s : By) (w : World) (hs : s.length ≤ 65536) {ts : List Tk} (hx : lexL s 0 = Sum.inr ts) {P : Pg × PS} (hP : programF (strB s).size (ts.length + 1) ⟨ts, false, 0⟩ = P) :
    Calls Try.prog 22 #[.string (strB s)] w fun e w' => ∃ a b, e = .returned (.agg #[a, b, .int .i64 ((finP P).e : Int), .int .i64 (finP P).at_]) ∧ IsV (New w) w' (pgC (finP P).p) (.agg #[a, b]) ∧ Below w.heap.size w w' := by
  obtain ⟨i0, hi0, hz0, hz1, hz2⟩ := info_parts Try.zinfoD
  obtain ⟨j0, hj0, hy0, hy1, hy2⟩ := info_parts Try.zinfoB
  have HX := Lib.hid hx
  have hlen : ts.length ≤ s.length := lexL_len hx
  have HFIT : Hid (∀ t ∈ ts, t.fit) := lexL_fit (by omega) hx
  have HOKK : Hid (∀ t ∈ ts, t.okk) := lexL_okk hx
  have hE : (strB s).size ≤ 1000000 := by rw [strB_size]; omega
  obtain ⟨K1, K2, K3, K4⟩ := programF_ok (strB s).size (ts.length + 1) ⟨ts, false, 0⟩
  obtain ⟨K5, K6⟩ := programL_pl (strB s).size (ts.length + 1) ts.length ⟨[], []⟩ ⟨ts, false, 0⟩ (fun b hb => by simp at hb) (fun d hd => by simp at hd)
  rw [show programL (strB s).size (ts.length + 1) ts.length ⟨[], []⟩ ⟨ts, false, 0⟩ = P from hP] at K5 K6
  rw [hP] at K1 K2 K3 K4
  dsimp only at K1 K2 K3 K4
  have KT : Hid (∀ d ∈ P.1.datas, ∀ c ∈ d.cons, ∀ t ∈ c.args, t.deep ≤ 1000000) := fun d hd c hc t ht => by have := K1 d hd c hc t ht; omega
  have KB : Hid (∀ b ∈ P.1.binds, b.body.deep ≤ 1000000) := fun b hb => by have := K2 b hb; omega
  have KP : Hid (P.2.st = false → (tooDoc P.1 < 0 → finP P = ⟨P.1, 0, 0⟩) ∧ (¬ tooDoc P.1 < 0 → finP P = ⟨⟨[], []⟩, 5, tooDoc P.1⟩)) := fun h => finP_doc h K5 K6
  have KS : Hid (P.2.st = true → finP P = ⟨⟨[], []⟩, 4, P.2.at_⟩) := fun h => by unfold finP; rw [if_pos h]
  obtain ⟨F, hF⟩ : ∃ F, finP P = F := ⟨_, rfl⟩
  rw [hF] at KP KS ⊢
  clear hx K1 K2 K3 K4 K5 K6 hF
  have HP : Hid (programL (strB s).size (ts.length + 1) ts.length ⟨[], []⟩ ⟨ts, false, 0⟩ = P) := hP
  clear hP
  go_enter Try.func22, Try.ntmps22
  go_wp2_with (go_at_call 49; refine (rt_lex (strB s) _ (by rw [strB_size]; omega)).mono ?_; rintro e w2 ⟨v, E, A, rfl, hlo, hb2⟩; rw [strB_data, HX.out] at hlo; obtain ⟨ho, rfl, rfl⟩ := hlo; obtain ⟨a, cp, rfl, hcp, htr⟩ := TR.of_owns ho; clear ho; have HTR := Lib.hid htr; have bx := (Box.new w 49 [.slice none 0 0, .slice none 0 0, .int .i64 0, .int .i64 0]).below hb2; have HBX := Lib.hid bx; have hlt := bx.lt; have HB2 := Lib.hid hb2; clear hb2 bx htr)
  have HRP : Hid (RP ⟨w2.heap.size + 1, (strB s).size, a, cp, ts⟩ ((w2.alloc (.cells #[.slice a ts.length cp, .int .i64 0, .int .i64 0] 96)).alloc (.cells #[.slice a ts.length cp, .int .i64 0, .int .i64 ((strB s).size : Int), .bool false, .int .i64 0] 100)) ⟨ts, false, 0⟩) := by
    have hb := Box.new (w2.alloc (.cells #[.slice a ts.length cp, .int .i64 0, .int .i64 0] 96)) 100 [.slice a ts.length cp, .int .i64 0, .int .i64 ((strB s).size : Int), .bool false, .int .i64 0]
    rw [World.size_alloc] at hb
    exact RP.first hb ((HTR.out.below (((Below.refl _ w2).alloc (Nat.le_refl _) _).alloc (by simp) _) (Nat.le_refl _)).mono (by omega)) hcp HFIT.out HOKK.out (by omega)
  have HB1 : Hid (Below w.heap.size w ((w2.alloc (.cells #[.slice a ts.length cp, .int .i64 0, .int .i64 0] 96)).alloc (.cells #[.slice a ts.length cp, .int .i64 0, .int .i64 ((strB s).size : Int), .bool false, .int .i64 0] 100))) :=
    ((((Below.refl _ w).alloc (Nat.le_refl _) _).trans (HB2.out.mono (by simp))).alloc (Nat.le_of_lt hlt) _).alloc (by simp; omega) _
  have HBX1 := Lib.hid ((HBX.out.alloc (.cells #[.slice a ts.length cp, .int .i64 0, .int .i64 0] 96)).alloc (.cells #[.slice a ts.length cp, .int .i64 0, .int .i64 ((strB s).size : Int), .bool false, .int .i64 0] 100))
  have hW1s : ((w2.alloc (.cells #[.slice a ts.length cp, .int .i64 0, .int .i64 0] 96)).alloc (.cells #[.slice a ts.length cp, .int .i64 0, .int .i64 ((strB s).size : Int), .bool false, .int .i64 0] 100)).heap.size = w2.heap.size + 1 + 1 := by simp
  clear HTR HB2 HBX HX HFIT HOKK
  obtain ⟨W1, hW1⟩ : ∃ W1, (w2.alloc (.cells #[.slice a ts.length cp, .int .i64 0, .int .i64 0] 96)).alloc (.cells #[.slice a ts.length cp, .int .i64 0, .int .i64 ((strB s).size : Int), .bool false, .int .i64 0] 100) = W1 := ⟨_, rfl⟩
  rw [hW1] at HRP HB1 HBX1 hW1s ⊢
  clear hW1
  obtain ⟨R, hR⟩ : ∃ R, w2.heap.size + 1 = R := ⟨_, rfl⟩
  rw [hR] at HRP hW1s ⊢
  have hwR : w.heap.size < R := by omega
  clear hR
  obtain ⟨B3, hB3⟩ : ∃ B3, R + 1 = B3 := ⟨_, rfl⟩
  rw [hB3] at hW1s ⊢
  have hRB : R < B3 := by omega
  clear hB3
  have hR1 : R < W1.heap.size := by omega
  have hB3l : W1.heap.size ≤ B3 := by omega
  have HC0 : Hid (Cay ⟨R, (strB s).size, a, cp, ts⟩ W1 (W1.alloc (.cells #[.slice none 0 0, .slice none 0 0] 28)) ⟨ts, false, 0⟩) := (Cay.start HRP.out).alloc _
  have HG0 : Hid (PGW W1 B3 (W1.alloc (.cells #[.slice none 0 0, .slice none 0 0] 28)) (.slice none 0 0) (.slice none 0 0) ⟨[], []⟩ [] []) := by
    have hb := Box.new W1 28 [.slice none 0 0, .slice none 0 0]
    rw [hW1s] at hb
    exact ⟨hb, World.ownsRow_nil _ _ _ _, World.ownsRow_nil _ _ _ _, InS.nil, InS.nil, fun q hq => by cases hq⟩
  clear HRP
  go_loopg [] (ts.length) (fun gn wr => ∃ (p q : Pg) (τ : PS) (v1 v2 : Value) (us1 us2 : List Value) (f : Nat), Hid (Cay ⟨R, (strB s).size, a, cp, ts⟩ W1 wr τ) ∧ Hid (PGW W1 B3 wr v1 v2 p us1 us2) ∧ Hid (programL (strB s).size (ts.length + 1) f q τ = P) ∧ Hid (τ.st = false → p = q) ∧ gn = τ.ts.length ∧ τ.ts.length ≤ f ∧ p.datas.length + p.binds.length + τ.ts.length ≤ 65536 ∧ τ.ts.length < ts.length + 1)
  case atStart => exact ⟨⟨[], []⟩, ⟨[], []⟩, ⟨ts, false, 0⟩, _, _, [], [], ts.length, HC0, HG0, HP, fun _ => rfl, rfl, Nat.le_refl _, by simp; omega, Nat.lt_succ_self _⟩
  case round =>
    obtain ⟨p, q, τ, v1, v2, us1, us2, f, HC, HG, HL, HPQ, rfl, hf, hl, hn⟩ := hrel
    clear HC0 HG0 HP
    have HLT := Lib.hid HG.out.lt
    obtain ⟨va, vc, hva⟩ := own_shape HG.out.r1
    obtain ⟨vb, vd, hvb⟩ := own_shape HG.out.r2
    obtain ⟨nd, hnd⟩ : ∃ nd, p.datas.length = nd := ⟨_, rfl⟩
    obtain ⟨nb, hnb⟩ : ∃ nb, p.binds.length = nb := ⟨_, rfl⟩
    have HND := Lib.hid hnd
    have HNB := Lib.hid hnb
    rw [hnd] at hva hl
    rw [hnb] at hvb hl
    clear hnd hnb
    subst hva hvb
    obtain ⟨i, hi, hb, hok, hemp⟩ := HC.out.rd.box
    dsimp only at hi hb hok hemp
    obtain ⟨N, hN⟩ : ∃ N, ts.length = N := ⟨_, rfl⟩
    have hbr := HC.out.box HBX1.out (show ¬ (_ = R) by omega)
    obtain ⟨_, _, _, _⟩ := four_cells hbr
    obtain ⟨_, _, _, _⟩ := four_frozen hbr
    have hWr := hbr.lt
    have HRX := Lib.hid hbr
    have HBQ : Hid (Below w.heap.size w wr) := HB1.out.trans (HC.out.out.below (by omega) (fun k hk => by show ¬ (k = R); omega))
    clear hbr
    cases hst : τ.st with
    | true =>
      have hts := hemp hst
      rw [hst] at hb
      obtain ⟨_, _, _, _, _⟩ := five_cells hb
      have hRw := hb.lt
      have HE : Hid (P = (q, τ)) := by show _ = _; rw [← HL.out]; exact programL_end hts
      have HF : Hid (F = ⟨⟨[], []⟩, 4, τ.at_⟩) := by show _ = _; have := KS.out (by rw [HE.out]; exact hst); rw [this, HE.out]
      clear hts hb hok hemp hst HL HPQ hf hl hn hN KP KS HE
      by_cases hlt : i < ts.length
      · have d1 : decide ((i : Int) < (ts.length : Int)) = true := decide_eq_true (by omega)
        have d2 : decide (i < ts.length) = true := decide_eq_true hlt
        clear hlt
        go_wp2_with fail
        go_quiet (fail)
        go_wp2_with fail
        refine bodyPost_ret (v := .agg #[.slice none 0 0, .slice none 0 0, .int .i64 4, .int .i64 (τ.at_ : Int)]) (by simp only [results, Try.results22]; go_simp <;> rfl) rfl ?_
        rw [HF.out]
        exact ⟨_, _, rfl, IsV.no_pg _ _, below4 (below_drewN HBQ.out _) _ _ _ _⟩
      · have d1 : decide ((i : Int) < (ts.length : Int)) = false := decide_eq_false (by omega)
        have d2 : decide (i < ts.length) = false := decide_eq_false hlt
        clear hlt
        go_wp2_with fail
        go_quiet (fail)
        go_wp2_with fail
        refine bodyPost_ret (v := .agg #[.slice none 0 0, .slice none 0 0, .int .i64 4, .int .i64 (τ.at_ : Int)]) (by simp only [results, Try.results22]; go_simp <;> rfl) rfl ?_
        rw [HF.out]
        exact ⟨_, _, rfl, IsV.no_pg _ _, below4 (below_drewN HBQ.out _) _ _ _ _⟩
    | false =>
      have hdr := hok hst
      rw [hst] at hb
      obtain ⟨_, _, _, _, _⟩ := five_cells hb
      have hRw := hb.lt
      by_cases hts : τ.ts = []
      · have HE : Hid (P = (p, τ)) := by show _ = _; rw [HPQ.out hst, ← HL.out]; exact programL_end hts
        have hlt : ¬ i < ts.length := by
          have := congrArg List.length hdr
          rw [hts, List.length_drop] at this
          simp at this; omega
        have HK := Lib.hid (KP.out (by rw [HE.out]; exact hst))
        have HKB := KB
        have HKT := KT
        rw [HE.out] at HK HKB HKT
        have d1 : decide ((i : Int) < (ts.length : Int)) = false := decide_eq_false (by omega)
        have d2 : decide (i < ts.length) = false := decide_eq_false hlt
        have hI1 := InC.of_owns HG.out.r1 (HG.out.i1.mono fun b _ h => h.1) (fun b hb => by have := (HLT.out.1 b hb).1; unfold New; omega) (flatC_len dtC_len _)
        have hI2 := InC.of_owns HG.out.r2 (HG.out.i2.mono fun b _ h => h.1) (fun b hb => by have := (HLT.out.2 b hb).1; unfold New; omega) (flatC_len bdC_len _)
        have HV : Hid (IsV (New W1) wr (pgC p) (.agg #[.slice va nd vc, .slice vb nb vd])) := IsV.of_pg hI1 hI2
        have HBB := Lib.hid HG.out.box
        have HPB := Lib.hid hb
        clear hlt hts hdr hb hok hemp hst HL HPQ hf hl hn hN KP KS HE KB KT hI1 hI2 hi HG HC
        go_wp2_with fail
        go_quiet (fail)
        replace HV : Hid (IsV (New W1) (wr.drewN nq) (pgC p) (.agg #[.slice va nd vc, .slice vb nb vd])) := HV.out.under (below_drewN (Below.refl _ wr) _)
        replace HPB := Lib.hid (HPB.out.below (below_drewN (Below.refl _ wr) nq))
        replace HBB := Lib.hid (HBB.out.below (below_drewN (Below.refl _ wr) nq))
        replace HRX := Lib.hid (HRX.out.below (below_drewN (Below.refl _ wr) nq))
        replace HBQ := Lib.hid (below_drewN HBQ.out nq)
        obtain ⟨D, hD⟩ : ∃ D, tooDoc p = D := ⟨_, rfl⟩
        have HDD := Lib.hid hD
        rw [hD] at HK
        clear hD
        obtain ⟨wq, hwq⟩ : ∃ wq, wr.drewN nq = wq := ⟨_, rfl⟩
        rw [hwq] at HV HBB HRX HBQ HPB ⊢
        clear hwq
        obtain ⟨_, _, _, _⟩ := two_cells HBB.out
        have hB3q := HBB.out.lt
        obtain ⟨_, _, _, _, _⟩ := five_cells HPB.out
        have hRq := HPB.out.lt
        have hWq := HRX.out.lt
        have hWW1 : w.heap.size < W1.heap.size := by omega
        by_cases hD : D < 0
        · have e1 : decide ((0 : Int) ≤ D) = false := decide_eq_false (by omega)
          have HF := Lib.hid (HK.out.1 (by omega))
          clear hD HK
          go_wp2_with (go_at_call 58; (refine (y_tooDeep p _ _ _ HV.out HKB.out HKT.out).mono ?_; rintro e w7 ⟨rfl, hb7⟩; rw [HDD.out]; have bx7 := HRX.out.below hb7; obtain ⟨_, _, _, _⟩ := four_cells bx7; obtain ⟨_, _, _, _⟩ := four_frozen bx7; have hlt7 := bx7.lt; have by7 := HBB.out.below hb7; obtain ⟨_, _, _, _⟩ := two_cells by7; have hlt8 := by7.lt; have HB7 := Lib.hid hb7; clear hb7 bx7 by7))
          refine bodyPost_ret (v := .agg #[.slice va nd vc, .slice vb nb vd, .int .i64 0, .int .i64 0]) (by simp only [results, Try.results22]; go_simp <;> rfl) rfl ?_
          rw [HF.out]
          exact ⟨_, _, rfl, (isv4 (b := w.heap.size) (HV.out.under HB7.out) (by unfold New; omega) _ _ _ _).mono (fun b _ h => by unfold New at h ⊢; omega), below4 (HBQ.out.trans (HB7.out.mono HBQ.out.size)) _ _ _ _⟩
        · have e1 : decide ((0 : Int) ≤ D) = true := decide_eq_true (by omega)
          have HF := Lib.hid (HK.out.2 (by omega))
          clear hD HK
          go_wp2_with (go_at_call 58; (refine (y_tooDeep p _ _ _ HV.out HKB.out HKT.out).mono ?_; rintro e w7 ⟨rfl, hb7⟩; rw [HDD.out]; have bx7 := HRX.out.below hb7; obtain ⟨_, _, _, _⟩ := four_cells bx7; obtain ⟨_, _, _, _⟩ := four_frozen bx7; have hlt7 := bx7.lt; have by7 := HBB.out.below hb7; obtain ⟨_, _, _, _⟩ := two_cells by7; have hlt8 := by7.lt; have HB7 := Lib.hid hb7; clear hb7 bx7 by7))
          refine bodyPost_ret (v := .agg #[.slice none 0 0, .slice none 0 0, .int .i64 5, .int .i64 D]) (by simp only [results, Try.results22]; go_simp <;> rfl) rfl ?_
          rw [HF.out]
          exact ⟨_, _, rfl, IsV.no_pg _ _, below4 (HBQ.out.trans (HB7.out.mono HBQ.out.size)) _ _ _ _⟩
      · have hpos : 0 < τ.ts.length := List.length_pos_iff.2 hts
        have hlt : i < ts.length := by
          have := congrArg List.length hdr
          rw [List.length_drop] at this; omega
        have hpq := HPQ.out hst
        subst hpq
        have d1 : decide ((i : Int) < (ts.length : Int)) = true := decide_eq_true (by omega)
        have d2 : decide (i < ts.length) = true := decide_eq_true hlt
        clear hb hok hemp hdr KP KS KB KT HPQ hlt HRX HBQ hN
        go_wp2_with fail
        go_quiet (fail)
        go_upto_region 7 with (fail)
        replace HC := Lib.hid (HC.out.drewN nq)
        replace HG := Lib.hid (HG.out.out (R := R) (Out.of_below (below_drewN (Below.refl _ wr) nq)) hR1 hB3l)
        obtain ⟨w6, hw6⟩ : ∃ w6, wr.drewN nq = w6 := ⟨_, rfl⟩
        rw [hw6] at HC HG ⊢
        clear hw6 d1 d2
        cases hs : τ.sees (sW tData) with
        | true =>
          obtain ⟨k0, hk0, hw0, hw1, hw2⟩ := info_parts Try.zinfoC
          obtain ⟨l0, hl0, hx0, hx1, hx2⟩ := info_parts Try.zstrInfo
          obtain ⟨f', hf1, hf2, hf3⟩ := programL_data (En := (strB s).size) (n := ts.length + 1) (p := p) hf hts hs
          have HL2 : Hid (programL (strB s).size (ts.length + 1) f' ⟨p.datas ++ [(dataF (strB s).size (ts.length + 1) τ).1], p.binds⟩ (dataF (strB s).size (ts.length + 1) τ).2 = P) := by show _ = _; rw [← hf1]; exact HL.out
          obtain ⟨t, rs, hts2⟩ := ts_cons (sees_pos hs (by decide))
          obtain ⟨A, hA⟩ : ∃ A, τ.take (strB s).size (sW tData) = A := ⟨_, rfl⟩
          have hA2 : A = (t, τ.tail) := by rw [← hA, tail_take hs]; unfold PS.head; rw [hts2]; rfl
          subst hA2
          obtain ⟨B, hB⟩ : ∃ B, τ.tail.take (strB s).size sCon = B := ⟨_, rfl⟩
          obtain ⟨M, hM⟩ : ∃ M, B.2.toks = M := ⟨_, rfl⟩
          obtain ⟨D, hD⟩ : ∃ D, M.2.take (strB s).size (sS tEq) = D := ⟨_, rfl⟩
          obtain ⟨vs, hvs⟩ : ∃ vs, M.1.map Tk.s = vs := ⟨_, rfl⟩
          obtain ⟨Q, hQ⟩ : ∃ Q, rowsF (sS tBar) many (conF (strB s).size vs (ts.length + 1)) D.2 = Q := ⟨_, rfl⟩
          obtain ⟨G, hG⟩ : ∃ G, Q.2.take (strB s).size (sS tSemi) = G := ⟨_, rfl⟩
          have hNm : B.2.names = (vs, M.2) := by rw [toks_names, hM, hvs]
          have htop : dataF (strB s).size (ts.length + 1) τ = (⟨B.1.s, B.1.p, vs, Q.1⟩, G.2) := by unfold dataF; rw [hA]; dsimp only; rw [hB, hNm]; dsimp only; rw [hD, hQ, hG]
          have l1 : τ.tail.ts.length < τ.ts.length := by rw [tail_len, hts2]; simp
          have l2 : B.2.ts.length ≤ τ.tail.ts.length := by rw [← hB]; exact take_len _ _ _
          have l3 : M.1.length + M.2.ts.length = B.2.ts.length := by rw [← hM]; exact toks_len _
          have l4 : D.2.ts.length ≤ M.2.ts.length := by rw [← hD]; exact take_len _ _ _
          have hDn : D.2.ts.length ≤ ts.length + 1 := by omega
          have hDl : D.2.ts.length ≤ 65535 := by omega
          have hvl : M.1.length = vs.length := by rw [← hvs]; simp
          obtain ⟨N, hN⟩ : ∃ N, vs.length = N := ⟨_, rfl⟩
          have HMN : Hid (M.1.length = N) := hvl.trans hN
          have hN6 : N ≤ 65536 := by omega
          rw [htop] at HL2 hf2 hf3
          have HTS := Lib.hid hts2
          have HB := Lib.hid hB
          have HMM := Lib.hid hM
          have HD := Lib.hid hD
          have HVS := Lib.hid hvs
          have HQ := Lib.hid hQ
          have HGS := Lib.hid hG
          have HN := Lib.hid hN
          have HS := Lib.hid hs
          clear hs hf1 HL hA hB hM hD hvs hQ hG hN hvl hNm htop hts hts2 hst hpos hf l1 l2 l3 l4
          have hR6 : R < w6.heap.size := HC.out.rd.lt
          have HLW := Lib.hid HG.out.lt
          have hB36 : B3 < w6.heap.size := HG.out.box.lt
          have hW16 : W1.heap.size ≤ w6.heap.size := HC.out.size
          have H0 := HC
          have H1 : Hid (Cay ⟨R, (strB s).size, a, cp, ts⟩ w6 w6 τ) := Lib.hid (Cay.start HC.out.rd)
          clear HC
          go_upto_region 8 with (go_at_call 50; refine (c_peek H1.out (sW tData) (askW (by decide) (by decide)) rfl rfl HS.out).mono ?_; clear H1 HS; rintro e w7 ⟨rfl, H1, ho1⟩; clear ho1; replace H1 := Lib.hid H1)
          obtain ⟨i2, bq, offq, h0', hiq, hdq, haq, hbRq, hbq, _, _, _, _, _, _⟩ := H1.out.rd.head HTS.out
          dsimp only at hiq hdq haq hbRq hbq
          obtain ⟨_, _, _, _, _⟩ := five_cells hbq
          obtain ⟨_, _, _, _, _⟩ := five_frozen hbq
          obtain ⟨hs1, hs2⟩ := H1.out.step HTS.out h0' hdq hiq haq hbq (Below.refl _ _)
          dsimp only at hs1
          have hi60 : ts.length ≤ 65536 := by omega
          replace H1 := Lib.hid hs1
          clear hbq hdq haq h0' hs1 hs2
          go_upto_region 12 with (first
            | (go_at_call 51; refine (c_eat H1.out sCon askCon (by decide) rfl rfl HB.out).mono ?_; clear H1 HB; rintro e wn ⟨rfl, H1, ho1⟩; have hln := H1.size; have hXn : ¬ (wn.heap.size = R) := (by have := H1.rd.lt; dsimp only at this; omega); have HX := Lib.hid (Box.new wn 103 [.int .i64 (B.1.k : Int), .int .i64 (B.1.p : Int), .string (strB B.1.s), .int .i64 (B.1.n : Int)]); clear ho1; replace H1 := Lib.hid (H1.alloc (.cells #[.int .i64 (B.1.k : Int), .int .i64 (B.1.p : Int), .string (strB B.1.s), .int .i64 (B.1.n : Int)] 103)))
            | (go_at_call 52; refine (c_names H1.out HMM.out).mono ?_; clear H1 HMM; rw [HMN.out]; rintro e w8 ⟨a1, cp1, rfl, htk, H1, ho1⟩; have hbx := ho1.box HX.out hXn; obtain ⟨_, _, _, _⟩ := four_cells hbx; obtain ⟨_, _, _, _⟩ := four_frozen hbx; have hxl := hbx.lt; clear hbx; have HTK := Lib.hid htk; clear ho1 htk; replace H1 := Lib.hid H1))
          have HTC : Hid (TokC (w8.alloc (.cells #[.string (strB B.1.s), .int .i64 (B.1.p : Int), .slice none 0 0, .slice none 0 0] 56)) a1 w8.heap.size M.1) := tok_land HTK.out (fun b h1 h2 => ⟨by omega, Below.heap_alloc w8 _ b h2⟩) (by simp)
          have HBX0 := Lib.hid (Box.new w8 56 [.string (strB B.1.s), .int .i64 (B.1.p : Int), .slice none 0 0, .slice none 0 0])
          have hw68 := H1.out.size
          have hR8 := H1.out.rd.lt
          dsimp only at hR8
          replace H1 := Lib.hid (H1.out.alloc (.cells #[.string (strB B.1.s), .int .i64 (B.1.p : Int), .slice none 0 0, .slice none 0 0] 56))
          obtain ⟨wv, hwv⟩ : ∃ wv, w8.alloc (.cells #[.string (strB B.1.s), .int .i64 (B.1.p : Int), .slice none 0 0, .slice none 0 0] 56) = wv := ⟨_, rfl⟩
          have hwvs : wv.heap.size = w8.heap.size + 1 := by rw [← hwv]; simp
          rw [hwv] at HTC HBX0 H1 ⊢
          obtain ⟨pb, hpb⟩ : ∃ pb, w8.heap.size = pb := ⟨_, rfl⟩
          rw [hpb] at HTC HBX0 hR8 hw68 hwvs ⊢
          have hpr : ¬ (pb = R) := by omega
          have hpl : w6.heap.size ≤ pb := hw68
          have hlv : pb < wv.heap.size := by omega
          clear hwv hpb HTK HX hxl hwvs
          go_wp2_with fail
          go_loopg [9] N (fun gn i wr => ∃ (j : Nat) (v : Value), j ≤ N ∧ gn + j = N ∧ i = .int .i64 j ∧ Hid (Nb pb wv wr) ∧ Hid (Box wr pb 56 [.string (strB B.1.s), .int .i64 (B.1.p : Int), v, .slice none 0 0]) ∧ Hid (wr.ownsRow wv.heap.size 9 1 v j ((M.1.take j).map fun t => Value.string (strB t.s))))
          case atStart => exact ⟨0, .slice none 0 0, Nat.zero_le _, rfl, rfl, Nb.refl _ _, HBX0, World.ownsRow_nil _ _ _ _⟩
          case round =>
            rename World => wr
            obtain ⟨j, v, hj, hgj, rfl, HNB, HBX, HOW⟩ := hrel
            obtain ⟨ya, yc, hv⟩ := own_shape HOW.out
            subst hv
            have HLO := Lib.hid (ownsRow_lo HOW.out)
            clear HBX0
            by_cases hlt : j < N
            · obtain ⟨bt, off, rfl, hbt, hbp, hcell⟩ := HTC.out.resolve_left (by have := HMN.out; omega)
              have hjM : j < M.1.length := by have := HMN.out; omega
              obtain ⟨t, ht⟩ : ∃ t, M.1[j]'hjM = t := ⟨_, rfl⟩
              have q2 : wr.cell? ⟨bt, off + j * 4 + 2, none⟩ = some (.string (strB t.s)) := (World.cell?_of_block (HNB.out.block bt hbt hbp)).trans (hcell j t (by rw [← ht]; exact List.getElem?_eq_getElem hjM))
              have HTJ : Hid ((M.1.take (j + 1)).map (fun t => Value.string (strB t.s)) = (M.1.take j).map (fun t => Value.string (strB t.s)) ++ [.string (strB t.s)]) := by show _ = _; rw [List.take_succ_eq_append_getElem hjM, List.map_append, ht]; rfl
              obtain ⟨SX, hSX⟩ : ∃ SX, strB t.s = SX := ⟨_, rfl⟩
              rw [hSX] at q2
              have HSX := Lib.hid hSX
              have T9 : ∀ W, Sem.run Try.prog (Instr.indexAt 81 (.slice (some ⟨bt, off, none⟩) N cp1) (.int .i64 (j : Int))) W = .ok (.pointer (some ⟨bt, off + j * 4, none⟩)) W := fun W => by go_simp
              have hbw : bt < wr.heap.size := Nat.lt_of_lt_of_le hbt HNB.out.size
              obtain ⟨_, _, _, _⟩ := four_cells HBX.out
              obtain ⟨_, _, _, _⟩ := four_frozen HBX.out
              have hpw := HBX.out.lt
              have Q1 : Hid (j + 1 ≤ maxLen) := by unfold maxLen; show _ ≤ _; omega
              have Q2 : Hid ((j + 1) * 16 ≤ 140737488355328) := by show _ ≤ _; omega
              have HSZ := Lib.hid HNB.out.size
              clear hcell ht hSX
              go_wp2_with fail
              go_region_law (refine step_append_lies _ rfl _ _ 53 rfl wv.heap.size 9 l0 (.string ⟨#[]⟩) 1 16 Try.underlying53 hl0 hx0 hx1 hx2 rfl (by decide) (.slice ya j yc) j ((M.1.take j).map fun t => Value.string (strB t.s)) rfl (own_agree (HOW.out.alloc (.cells #[.string SX] 9)) fun q _ => rfl) ⟨wr.heap.size, 0, none⟩ 1 1 [.string SX] rfl rfl (fun q u hu => news_at (w := wr) (t := 9) (cs := [.string SX]) rfl q u hu) (by simp [Value.oneCell']) (by decide) Q1.out Q2.out (by have := HSZ.out; simp; exact Nat.le_succ_of_le this) _ rfl ?_; intro g cap wg hown9 hgrow hat hlt9; have HNB9 := (HNB.out.alloc (.cells #[.string SX] 9)).drew.grown hgrow (fun q hq => (HLO.out q hq).1); have z9 := (Box.drew (HBX.out.alloc (.cells #[.string SX] 9))).grown hgrow (fun q => by have := (HLO.out pb q.symm).1; omega); obtain ⟨_, _, _, _⟩ := four_cells z9; obtain ⟨_, _, _, _⟩ := four_frozen z9; have hz9 := z9.lt; have HOWN := Lib.hid hown9; have HNB9 := Lib.hid HNB9; have HZ9 := Lib.hid z9; clear z9 hown9 hgrow hat)
              all_goals (have HNB8 := Lib.hid (HNB9.out.set 2 (.slice (some ⟨g, 0, none⟩) (j + 1) cap)); have HB8 : Hid (Box (wg.setCell ⟨pb, 2, none⟩ (.slice (some ⟨g, 0, none⟩) (j + 1) cap)) pb 56 [.string (strB B.1.s), .int .i64 (B.1.p : Int), .slice (some ⟨g, 0, none⟩) (j + 1) cap, .slice none 0 0]) := HZ9.out.set 2 (.slice (some ⟨g, 0, none⟩) (j + 1) cap); have HO8 : Hid ((wg.setCell ⟨pb, 2, none⟩ (.slice (some ⟨g, 0, none⟩) (j + 1) cap)).ownsRow wv.heap.size 9 1 (.slice (some ⟨g, 0, none⟩) (j + 1) cap) (j + 1) ((M.1.take (j + 1)).map fun t => Value.string (strB t.s))) := (by rw [HTJ.out, HSX.out]; exact own_agree HOWN.out fun q hq => Below.heap_setCell wg ⟨pb, 2, none⟩ _ q (fun e => by have e' : q = pb := e; have := (ownsRow_lo HOWN.out q hq).1; omega)))
              all_goals (clear HNB9 HZ9 HOWN HTJ HSX)
              all_goals go_wp2_with fail
              all_goals go_roundg (N - (j + 1))
              all_goals first
                | omega
                | exact ⟨j + 1, _, by omega, by omega, by go_num, HNB8, HB8, HO8⟩
            · obtain rfl : N = j := by omega
              have hpv := HBX.out.lt
              have HK : Hid (InC (fun b => New w6 b ∧ b ≠ pb ∧ b < wr.heap.size) wr (.s N 1 (strsC vs)) (.slice ya N yc)) := by
                have h1 := HOW.out
                rw [List.take_of_length_le (by have := HMN.out; omega)] at h1
                rw [← HVS.out]
                exact Lib.hid (InC.of_owns h1 (by have := strsC_ins (fun b => New w6 b ∧ b ≠ pb ∧ b < wr.heap.size) wr (M.1.map Tk.s); rw [List.map_map] at this; exact this) (fun b hb => by have := HLO.out b hb; exact ⟨by unfold New; omega, by omega, this.2⟩) (by simp [strsC, HMN.out]))
              replace H1 := Lib.hid (H1.out.putN HNB.out hpl)
              have HGH := Lib.hid (GH.start (pre := [.string (strB B.1.s), .int .i64 (B.1.p : Int), .slice ya N yc]) (post := []) (e := 59) (k := 3) HBX.out rfl)
              obtain ⟨V1, rfl⟩ : ∃ V1, V1 = wr := ⟨wr, rfl⟩
              have hpR : R < V1.heap.size := by omega
              have hwV : w6.heap.size ≤ V1.heap.size := H1.out.size
              have HAL : Hid (∀ (W0 W : World) (τ : PS), Cay ⟨R, (strB s).size, a, cp, ts⟩ W0 W τ → InC (fun b => New w6 b ∧ b ≠ pb ∧ b < V1.heap.size) W (.s N 1 (strsC vs)) (.slice ya N yc) → τ.ts.length ≤ ts.length + 1 → Calls Try.prog 54 #[.pointer (some ⟨R, 0, none⟩), .slice ya N yc] W (TellsY ⟨R, (strB s).size, a, cp, ts⟩ W0 W cnC (conF (strB s).size vs (ts.length + 1) τ))) := fun W0 W τ h hV hl => by
                have hV2 : VY ⟨R, (strB s).size, a, cp, ts⟩ W ya yc vs := ⟨by rw [HN.out]; exact hV.mono (fun b _ hb => by show ¬ (b = R); have := hb.1; unfold New at this; omega), by rw [HN.out]; exact hN6⟩
                have := c_con (c := ⟨R, (strB s).size, a, cp, ts⟩) (c_typ ⟨R, (strB s).size, a, cp, ts⟩ vs ya yc (ts.length + 1)) (typF_len _ _ _) h hV2 hl rfl
                rw [HN.out] at this
                exact this
              obtain ⟨r0, hr0⟩ : ∃ r0, conF (strB s).size vs (ts.length + 1) D.2 = r0 := ⟨_, rfl⟩
              have HQ0 : Hid (rowsL (sS tBar) many (conF (strB s).size vs (ts.length + 1)) r0.2.ts.length [r0.1] r0.2 = Q) := by show _ = _; rw [← HQ.out, ← hr0]; rfl
              have hrn : r0.2.ts.length ≤ D.2.ts.length := by rw [← hr0]; exact conF_len _ _ _ _
              have HR0 := Lib.hid hr0
              clear hr0 HQ HBX HOW HLO HNB HTC hgj hj hlt
              go_upto_region 17 with (go_at_call 53; refine (c_sign H1.out tEq (askS (by decide) (by decide)) rfl HD.out).mono ?_; clear H1 HD; rintro e w3 ⟨rfl, H1, ho1⟩; replace HGH := Lib.hid (HGH.out.out ho1 (fun q => hpr q.symm) hpR); replace HK := Lib.hid (HK.out.out ho1 (fun b _ hb e => by have := hb.1; have e2 : b = R := e; unfold New at this; omega)); clear ho1; replace H1 := Lib.hid H1)
              have HAK : Hid (Calls Try.prog 54 #[.pointer (some ⟨R, 0, none⟩), .slice ya N yc] w3.drew (TellsY ⟨R, (strB s).size, a, cp, ts⟩ w3 w3.drew cnC r0)) := by
                have hdo : Out (fun b => b = R) w3 w3.drew := ⟨rfl, rfl, rfl, Nat.le_refl _, fun _ _ _ => rfl⟩
                rw [← HR0.out]
                exact HAL.out _ _ D.2 ⟨H1.out.rd.drew, hdo, H1.out.rd.lt⟩ HK.out.drew hDn
              have HLV := Lib.hid HGH.out.gr.lt
              have hBw := HGH.out.box.lt
              have hpV := HGH.out.lt
              have hle3 := HGH.out.le
              have hR3 := H1.out.rd.lt
              dsimp only at hR3
              have hbq := (show Box _ _ _ [.string (strB B.1.s), .int .i64 (B.1.p : Int), .slice ya N yc, .slice none 0 0] from HGH.out.box)
              obtain ⟨_, _, _, _⟩ := four_cells hbq
              obtain ⟨_, _, _, _⟩ := four_frozen hbq
              clear hbq
              have Q1 : Hid (0 + 1 ≤ maxLen) := by unfold maxLen; show _ ≤ _; omega
              have Q2 : Hid ((0 + 1) * 48 ≤ 140737488355328) := by show _ ≤ _; omega
              go_cut [] (fun wx => ConS ⟨R, (strB s).size, a, cp, ts⟩ w6 V1 pb B.1.s B.1.p ya yc vs N r0 wx)
              case first =>
                go_region_law (first
                  | (refine step_append_lies _ rfl _ _ 54 rfl V1.heap.size 59 k0 (.agg #[.string ⟨#[]⟩, .int .i64 0, .slice none 0 0]) 3 48 Try.underlying54 hk0 hw0 hw1 hw2 rfl (by decide) (.slice none 0 0) 0 [] rfl (HR4.out.alloc _) ⟨w4.heap.size, 0, none⟩ 1 1 [.string (strB xq.s), .int .i64 xq.p, .slice g2 xq.args.length g4] rfl rfl (news_at (cs := [.string (strB xq.s), .int .i64 xq.p, .slice g2 xq.args.length g4]) rfl) (by simp [Value.oneCell']) (by decide) Q1.out Q2.out Q3.out _ rfl ?_; intro g cap wg hown9 hgrow hat hlt9; have z9 := (HG4.out.box.alloc (.cells #[.string (strB xq.s), .int .i64 xq.p, .slice g2 xq.args.length g4] 59)).grown hgrow HnB.out; have hbq := (show Box _ _ _ [.string (strB B.1.s), .int .i64 (B.1.p : Int), .slice ya N yc, .slice none 0 0] from z9); obtain ⟨_, _, _, _⟩ := four_cells hbq; obtain ⟨_, _, _, _⟩ := four_frozen hbq; clear hbq; have hz9 := z9.lt; have HOWN := Lib.hid hown9; have HGR := Lib.hid hgrow; rw [World.size_alloc] at hat; have HAT := Lib.hid hat; clear z9 hown9 hgrow hat)
                  | (refine step_plainz rfl ?_; go_simp; go_at_call 54; (with_reducible refine (HAK.out).mono ?_); rintro e w4 ⟨v, xq, rfl, hv, hxq, hc4, ho1⟩; have HD4 := Lib.hid hv.cells; obtain ⟨g2, g4, ghz, _⟩ := hv.cn; subst ghz; have HG4 := Lib.hid (HGH.out.out ho1.drew2 (fun q => hpr q.symm) hpR); have HC4 := Lib.hid (H1.out.next hc4.rd ho1.drew2); have HXQ := Lib.hid hxq; have HO4 := Lib.hid ho1.drew2; have hbq := (show Box _ _ _ [.string (strB B.1.s), .int .i64 (B.1.p : Int), .slice ya N yc, .slice none 0 0] from HG4.out.box); obtain ⟨_, _, _, _⟩ := four_cells hbq; obtain ⟨_, _, _, _⟩ := four_frozen hbq; clear hbq; have hBw4 := HG4.out.box.lt; have HR4 : Hid (w4.ownsRow V1.heap.size 59 3 (.slice none 0 0) 0 []) := HG4.out.gr.1; have Q3 : Hid (V1.heap.size ≤ (w4.alloc (.cells #[.string (strB xq.s), .int .i64 xq.p, .slice g2 xq.args.length g4] 59)).heap.size) := (by have := HG4.out.le; show V1.heap.size ≤ _; rw [World.size_alloc]; omega); have HnB : Hid (some pb ≠ Value.ownBlock (.slice none 0 0)) := (fun q => by have := (HLV.out pb q.symm).1; omega); clear hv hxq hc4 ho1))
                all_goals (have HG9 := Lib.hid (HG4.out.push (W2 := w3) (i := 3) (ds := cnC xq) (vs := [.string (strB xq.s), .int .i64 xq.p, .slice g2 xq.args.length g4]) rfl (by simpa [Value.cells] using HD4.out) (fun q hq => (HLV.out q hq).2) hle3 HOWN.out HGR.out HAT.out))
                all_goals (have HC9 := Lib.hid (((HC4.out.alloc _).grow HGR.out (fun q hq => by have := (HLV.out q hq).1; omega)).put hpl 3 (.slice (some ⟨g, 0, none⟩) 1 cap)))
                all_goals (have HBK := Lib.hid (fun b hb hn hr => (HG4.out.block (i := 3) (u := .slice (some ⟨g, 0, none⟩) 1 cap) HGR.out b hb hn).trans (HO4.out.block b (Nat.lt_of_lt_of_le hb hle3) hr) : ∀ b, b < V1.heap.size → b ≠ pb → ¬ (b = R) → (wg.setCell ⟨pb, 3, none⟩ (.slice (some ⟨g, 0, none⟩) 1 cap)).heap[b]? = w3.heap[b]?))
                all_goals (have HSZ9 : Hid (w3.heap.size ≤ (wg.setCell ⟨pb, 3, none⟩ (.slice (some ⟨g, 0, none⟩) 1 cap)).heap.size) := (by have h1 := HO4.out.size; have h2 := HGR.out.size; show _ ≤ _; simp at h2 ⊢; omega))
                all_goals (clear HAT HGR HOWN HD4 HC4 HG4 HAK HR4 HO4)
                all_goals (have HK9 : Hid (InC (fun b => New w6 b ∧ b ≠ pb ∧ b < V1.heap.size) (wg.setCell ⟨pb, 3, none⟩ (.slice (some ⟨g, 0, none⟩) 1 cap)) (.s N 1 (strsC vs)) (.slice ya N yc)) := HK.out.agree (fun b h1 h2 => ⟨h1, HBK.out b h1.2.2 h1.2.1 (fun e => by have h3 := h1.1; have e2 : b = R := e; unfold New at h3; omega)⟩) (HSZ9.out))
                all_goals (clear HK HBK)
                all_goals (replace HG9 : Hid (GH V1 pb 56 [.string (strB B.1.s), .int .i64 (B.1.p : Int), .slice ya N yc] [] 59 3 (wg.setCell ⟨pb, 3, none⟩ (.slice (some ⟨g, 0, none⟩) 1 cap)) (.slice (some ⟨g, 0, none⟩) 1 cap) 1 (cnC xq) [.string (strB xq.s), .int .i64 xq.p, .slice g2 xq.args.length g4]) := Lib.hid (by simpa using HG9.out))
                all_goals go_wp2_with fail
                all_goals go_meet
                all_goals exact ⟨g, cap, xq, _, HC9.out, HG9.out, HK9.out, HXQ.out⟩
              case rest =>
                obtain ⟨g, cap, xq, uq, hC9, hG9, hK9, hXQ⟩ := hcut
                have HC9 := Lib.hid hC9
                have HG9 := Lib.hid hG9
                have HK9 := Lib.hid hK9
                have HXQ := Lib.hid hXQ
                clear hC9 hG9 hK9 hXQ HK H1 HGH
                go_wp2_with fail
                go_loopg [] (r0.2.ts.length) (fun gn wr => ∃ (l dl : List Cn) (τ : PS) (v : Value) (us : List Value) (f : Nat), Hid (Cay ⟨R, (strB s).size, a, cp, ts⟩ w6 wr τ) ∧ Hid (GH V1 pb 56 [.string (strB B.1.s), .int .i64 (B.1.p : Int), .slice ya N yc] [] 59 3 wr v dl.length (dl.flatMap cnC) us) ∧ Hid (InC (fun b => New w6 b ∧ b ≠ pb ∧ b < V1.heap.size) wr (.s N 1 (strsC vs)) (.slice ya N yc)) ∧ Hid (rowsL (sS tBar) many (conF (strB s).size vs (ts.length + 1)) f l τ = Q) ∧ Hid (τ.st = false → dl = l) ∧ l.length = dl.length ∧ gn = τ.ts.length ∧ τ.ts.length ≤ f ∧ dl.length + τ.ts.length ≤ 65536 ∧ τ.ts.length ≤ ts.length + 1)
                case atStart => exact ⟨[r0.1], [xq], r0.2, _, _, r0.2.ts.length, HC9, by simpa using HG9, HK9, HQ0, fun h => by rw [HXQ.out h], rfl, rfl, Nat.le_refl _, by simp; omega, by omega⟩
                case round =>
                  rename World => wr
                  obtain ⟨l, dl, τ3, v, us, f3, H1, HGH, HK, HL3, HD3, hll, rfl, hf4, hl4, hn4⟩ := hrel
                  clear HQ0 HC9 HG9 HK9 HXQ
                  obtain ⟨za, zc, hv⟩ := HGH.out.shape
                  subst hv
                  cases hs3 : τ3.sees (sS tBar) with
                  | true =>
                    obtain ⟨f5, hf5, hf6, hf7⟩ := rowsL_go (l := l) (most := many) hf4 (by have h7 := sees_pos hs3 (sS_ne _); unfold many; omega) hs3 (sS_ne _) (conF_len (strB s).size vs (ts.length + 1))
                    have HL4 : Hid (rowsL (sS tBar) many (conF (strB s).size vs (ts.length + 1)) f5 (l ++ [(conF (strB s).size vs (ts.length + 1) τ3.tail).1]) (conF (strB s).size vs (ts.length + 1) τ3.tail).2 = Q) := by show _ = _; rw [← hf5]; exact HL3.out
                    have HSC : Hid (τ3.skip (sS tBar) = (true, τ3.tail)) := by show _ = _; unfold PS.skip; rw [if_pos hs3]
                    have htl : τ3.tail.ts.length ≤ ts.length + 1 := by rw [tail_len]; omega
                    have hon : (conF (strB s).size vs (ts.length + 1) τ3.tail).2.ts.length ≤ ts.length + 1 := by omega
                    have HDL : Hid (dl = l) := by
                      refine HD3.out ?_
                      obtain ⟨i1, _, _, _, hemp⟩ := H1.out.rd.box
                      cases q : τ3.st with
                      | false => rfl
                      | true => have := hemp q; rw [this] at hf7; simp at hf7
                    clear hs3 hf5 HL3 HD3
                    go_wp2_with (go_at_call 55; refine (c_try H1.out tBar (askS (by decide) (by decide)) rfl HSC.out).mono ?_; clear H1; rintro e w3 ⟨rfl, H1, ho1⟩; replace HGH := Lib.hid (HGH.out.out ho1 (fun q => hpr q.symm) hpR); replace HK := Lib.hid (HK.out.out ho1 (fun b _ hb e => by have := hb.1; have e2 : b = R := e; unfold New at this; omega)); clear ho1; replace H1 := Lib.hid H1)
                    have HAK : Hid (Calls Try.prog 54 #[.pointer (some ⟨R, 0, none⟩), .slice ya N yc] w3.drew (TellsY ⟨R, (strB s).size, a, cp, ts⟩ w3 w3.drew cnC (conF (strB s).size vs (ts.length + 1) τ3.tail))) := by
                      have hdo : Out (fun b => b = R) w3 w3.drew := ⟨rfl, rfl, rfl, Nat.le_refl _, fun _ _ _ => rfl⟩
                      exact HAL.out _ _ τ3.tail ⟨H1.out.rd.drew, hdo, H1.out.rd.lt⟩ HK.out.drew htl
                    have HLV := Lib.hid HGH.out.gr.lt
                    have hBw := HGH.out.box.lt
                    have hpV := HGH.out.lt
                    have hle3 := HGH.out.le
                    have hR3 := H1.out.rd.lt
                    dsimp only at hR3
                    have hbq := (show Box _ _ _ [.string (strB B.1.s), .int .i64 (B.1.p : Int), .slice ya N yc, .slice za dl.length zc] from HGH.out.box)
                    obtain ⟨_, _, _, _⟩ := four_cells hbq
                    obtain ⟨_, _, _, _⟩ := four_frozen hbq
                    clear hbq
                    have Q1 : Hid (dl.length + 1 ≤ maxLen) := by unfold maxLen; show _ ≤ _; omega
                    have Q2 : Hid ((dl.length + 1) * 48 ≤ 140737488355328) := by show _ ≤ _; omega
                    go_region_law (first
                      | (refine step_append_lies _ rfl _ _ 54 rfl V1.heap.size 59 k0 (.agg #[.string ⟨#[]⟩, .int .i64 0, .slice none 0 0]) 3 48 Try.underlying54 hk0 hw0 hw1 hw2 rfl (by decide) (.slice za dl.length zc) dl.length us rfl (HR4.out.alloc _) ⟨w4.heap.size, 0, none⟩ 1 1 [.string (strB xq.s), .int .i64 xq.p, .slice g2 xq.args.length g4] rfl rfl (news_at (cs := [.string (strB xq.s), .int .i64 xq.p, .slice g2 xq.args.length g4]) rfl) (by simp [Value.oneCell']) (by decide) Q1.out Q2.out Q3.out _ rfl ?_; intro g cap wg hown9 hgrow hat hlt9; have z9 := (HG4.out.box.alloc (.cells #[.string (strB xq.s), .int .i64 xq.p, .slice g2 xq.args.length g4] 59)).grown hgrow HnB.out; have hbq := (show Box _ _ _ [.string (strB B.1.s), .int .i64 (B.1.p : Int), .slice ya N yc, .slice za dl.length zc] from z9); obtain ⟨_, _, _, _⟩ := four_cells hbq; obtain ⟨_, _, _, _⟩ := four_frozen hbq; clear hbq; have hz9 := z9.lt; have HOWN := Lib.hid hown9; have HGR := Lib.hid hgrow; rw [World.size_alloc] at hat; have HAT := Lib.hid hat; clear z9 hown9 hgrow hat)
                      | (refine step_plainz rfl ?_; go_simp; go_at_call 54; (with_reducible refine (HAK.out).mono ?_); rintro e w4 ⟨v, xq, rfl, hv, hxq, hc4, ho1⟩; have HD4 := Lib.hid hv.cells; obtain ⟨g2, g4, ghz, _⟩ := hv.cn; subst ghz; have HG4 := Lib.hid (HGH.out.out ho1.drew2 (fun q => hpr q.symm) hpR); have HC4 := Lib.hid (H1.out.next hc4.rd ho1.drew2); have HXQ := Lib.hid hxq; have HO4 := Lib.hid ho1.drew2; have hbq := (show Box _ _ _ [.string (strB B.1.s), .int .i64 (B.1.p : Int), .slice ya N yc, .slice za dl.length zc] from HG4.out.box); obtain ⟨_, _, _, _⟩ := four_cells hbq; obtain ⟨_, _, _, _⟩ := four_frozen hbq; clear hbq; have hBw4 := HG4.out.box.lt; have HR4 : Hid (w4.ownsRow V1.heap.size 59 3 (.slice za dl.length zc) dl.length us) := HG4.out.gr.1; have Q3 : Hid (V1.heap.size ≤ (w4.alloc (.cells #[.string (strB xq.s), .int .i64 xq.p, .slice g2 xq.args.length g4] 59)).heap.size) := (by have := HG4.out.le; show V1.heap.size ≤ _; rw [World.size_alloc]; omega); have HnB : Hid (some pb ≠ Value.ownBlock (.slice za dl.length zc)) := (fun q => by have := (HLV.out pb q.symm).1; omega); clear hv hxq hc4 ho1))
                    all_goals (have HG9 := Lib.hid (HG4.out.push (W2 := w3) (i := 3) (ds := cnC xq) (vs := [.string (strB xq.s), .int .i64 xq.p, .slice g2 xq.args.length g4]) rfl (by simpa [Value.cells] using HD4.out) (fun q hq => (HLV.out q hq).2) hle3 HOWN.out HGR.out HAT.out))
                    all_goals (have HC9 := Lib.hid (((HC4.out.alloc _).grow HGR.out (fun q hq => by have := (HLV.out q hq).1; omega)).put hpl 3 (.slice (some ⟨g, 0, none⟩) (dl.length + 1) cap)))
                    all_goals (have HBK := Lib.hid (fun b hb hn hr => (HG4.out.block (i := 3) (u := .slice (some ⟨g, 0, none⟩) (dl.length + 1) cap) HGR.out b hb hn).trans (HO4.out.block b (Nat.lt_of_lt_of_le hb hle3) hr) : ∀ b, b < V1.heap.size → b ≠ pb → ¬ (b = R) → (wg.setCell ⟨pb, 3, none⟩ (.slice (some ⟨g, 0, none⟩) (dl.length + 1) cap)).heap[b]? = w3.heap[b]?))
                    all_goals (have HSZ9 : Hid (w3.heap.size ≤ (wg.setCell ⟨pb, 3, none⟩ (.slice (some ⟨g, 0, none⟩) (dl.length + 1) cap)).heap.size) := (by have h1 := HO4.out.size; have h2 := HGR.out.size; show _ ≤ _; simp at h2 ⊢; omega))
                    all_goals (clear HAT HGR HOWN HD4 HC4 HG4 HAK HR4 HO4)
                    all_goals (have HK9 : Hid (InC (fun b => New w6 b ∧ b ≠ pb ∧ b < V1.heap.size) (wg.setCell ⟨pb, 3, none⟩ (.slice (some ⟨g, 0, none⟩) (dl.length + 1) cap)) (.s N 1 (strsC vs)) (.slice ya N yc)) := HK.out.agree (fun b h1 h2 => ⟨h1, HBK.out b h1.2.2 h1.2.1 (fun e => by have h3 := h1.1; have e2 : b = R := e; unfold New at h3; omega)⟩) (HSZ9.out))
                    all_goals (clear HK HBK)
                    all_goals go_wp2_with fail
                    all_goals go_roundg (conF (strB s).size vs (ts.length + 1) τ3.tail).2.ts.length
                    all_goals first
                      | exact hf7
                      | exact ⟨l ++ [(conF (strB s).size vs (ts.length + 1) τ3.tail).1], dl ++ [xq], (conF (strB s).size vs (ts.length + 1) τ3.tail).2, _, _, f5, HC9, by simpa [List.flatMap_append] using HG9, HK9, HL4, fun h => by rw [HDL.out, HXQ.out h], by simp; omega, rfl, hf6, by simp; omega, hon⟩
                  | false =>
                    have HE : Hid (Q = (l, τ3)) := by show _ = _; rw [← HL3.out]; exact rowsL_end (by rw [hs3]; simp)
                    have HSC : Hid (τ3.skip (sS tBar) = (false, τ3)) := by show _ = _; unfold PS.skip; rw [if_neg (by rw [hs3]; decide)]
                    have HG3 : Hid (τ3.take (strB s).size (sS tSemi) = G) := by show _ = _; rw [← HGS.out, HE.out]
                    have HT9 : Hid (G.2.st = false → dl = Q.1) := fun h => by
                      have h1 : τ3.st = false := PS.take_st (by rw [HG3.out]; exact h)
                      rw [HE.out]; exact HD3.out h1
                    clear hs3 HL3 HD3
                    go_upto_region 21 with (first
                      | (go_at_call 55; refine (c_try H1.out tBar (askS (by decide) (by decide)) rfl HSC.out).mono ?_; clear H1; rintro e w3 ⟨rfl, H1, ho1⟩; replace HGH := Lib.hid (HGH.out.out ho1 (fun q => hpr q.symm) hpR); replace HK := Lib.hid (HK.out.out ho1 (fun b _ hb e => by have := hb.1; have e2 : b = R := e; unfold New at this; omega)); clear ho1; replace H1 := Lib.hid H1)
                      | (go_at_call 53; refine (c_sign H1.out tSemi (askS (by decide) (by decide)) rfl HG3.out).mono ?_; clear H1; rintro e w5 ⟨rfl, H1, ho1⟩; replace HGH := Lib.hid (HGH.out.out ho1 (fun q => hpr q.symm) hpR); replace HK := Lib.hid (HK.out.out ho1 (fun b _ hb e => by have := hb.1; have e2 : b = R := e; unfold New at this; omega)); clear ho1; replace H1 := Lib.hid H1))
                    have hbq := (show Box _ _ _ [.string (strB B.1.s), .int .i64 (B.1.p : Int), .slice ya N yc, .slice za dl.length zc] from HGH.out.box)
                    obtain ⟨_, _, _, _⟩ := four_cells hbq
                    obtain ⟨_, _, _, _⟩ := four_frozen hbq
                    have hbl := hbq.lt
                    clear hbq
                    replace HG := Lib.hid (HG.out.out H1.out.out hR1 hB3l)
                    obtain ⟨_, _, _, _⟩ := two_cells HG.out.box
                    have hB35 := HG.out.box.lt
                    have HR4 : Hid (w5.ownsRow (B3 + 1) 56 4 (.slice va nd vc) nd us1) := (by have := HG.out.r1; rw [HND.out] at this; exact this)
                    have Q1 : Hid (nd + 1 ≤ maxLen) := by unfold maxLen; show _ ≤ _; omega
                    have Q2 : Hid ((nd + 1) * 72 ≤ 140737488355328) := by show _ ≤ _; omega
                    have Q3 : Hid (B3 + 1 ≤ (w5.alloc (.cells #[.string (strB B.1.s), .int .i64 (B.1.p : Int), .slice ya N yc, .slice za dl.length zc] 56)).heap.size) := (by show B3 + 1 ≤ _; rw [World.size_alloc]; omega)
                    have HnB : Hid (some B3 ≠ (Value.slice va nd vc).ownBlock) := (fun q => by have := (HLW.out.1 B3 q.symm).1; omega)
                    go_wp2_with (at_builtin; refine wpList_append_lies _ rfl _ _ 25 rfl (B3 + 1) 56 i0 (.agg #[.string ⟨#[]⟩, .int .i64 0, .slice none 0 0, .slice none 0 0]) 4 72 Try.underlying25 hi0 hz0 hz1 hz2 rfl (by decide) (.slice va nd vc) nd us1 rfl (HR4.out.alloc _) ⟨w5.heap.size, 0, none⟩ 1 1 [.string (strB B.1.s), .int .i64 (B.1.p : Int), .slice ya N yc, .slice za dl.length zc] rfl rfl (news_at (cs := [.string (strB B.1.s), .int .i64 (B.1.p : Int), .slice ya N yc, .slice za dl.length zc]) rfl) (by simp [Value.oneCell']) (by decide) Q1.out Q2.out Q3.out _ rfl ?_; intro g cap wg hown9 hgrow hat hlt9; have z9 := (HG.out.box.alloc (.cells #[.string (strB B.1.s), .int .i64 (B.1.p : Int), .slice ya N yc, .slice za dl.length zc] 56)).grown hgrow HnB.out; obtain ⟨z0, z1, z2, z3⟩ := two_cells z9; have hz9 := z9.lt; have HOWN := Lib.hid hown9; have HGR := Lib.hid hgrow; rw [World.size_alloc] at hat; have HAT := Lib.hid hat; clear z9 hown9 hgrow hat)
                    have HD9 : Hid (InS (New w6) w5 (dtC ⟨B.1.s, (B.1.p : Int), vs, dl⟩) [.string (strB B.1.s), .int .i64 (B.1.p : Int), .slice ya N yc, .slice za dl.length zc]) := by
                      have hdn := HGH.out.done (W0 := w6) hwV (flatC_len cnC_len dl)
                      have hk2 := HK.out.mono (S' := New w6) (fun b _ h => h.1)
                      refine Lib.hid (InS.cons (.v _) (InS.cons (.v _) (InS.cons ?_ (InS.cons hdn InS.nil))))
                      show InC _ _ (.s vs.length 1 (strsC vs)) _
                      rw [HN.out]; exact hk2
                    have HP9 := HG.out.data (W2 := w6) (d := ⟨B.1.s, (B.1.p : Int), vs, dl⟩) (vs := [.string (strB B.1.s), .int .i64 (B.1.p : Int), .slice ya N yc, .slice za dl.length zc]) HD9.out hW16 hB36 (fun q hq => (HLW.out.1 q hq).2) (fun q hq => (HLW.out.2 q hq).2) (by rw [HND.out]; exact HOWN.out) HGR.out HAT.out
                    rw [HND.out] at HP9
                    have HC1 : Cay ⟨R, (strB s).size, a, cp, ts⟩ W1 w5 G.2 := H0.out.next H1.out.rd H1.out.out
                    have HC9 := Lib.hid (((HC1.alloc (.cells #[.string (strB B.1.s), .int .i64 (B.1.p : Int), .slice ya N yc, .slice za dl.length zc] 56)).grow HGR.out (fun q hq => by have := (HLW.out.1 q hq).1; omega)).put hB3l 0 (.slice (some ⟨g, 0, none⟩) (nd + 1) cap))
                    have HP9' := Lib.hid HP9
                    clear HP9 HD9 HAT HGR HOWN HG HR4 HC1 H1 HGH HK
                    go_roundg G.2.ts.length
                    all_goals first
                      | exact hf3
                      | exact ⟨⟨p.datas ++ [⟨B.1.s, (B.1.p : Int), vs, dl⟩], p.binds⟩, ⟨p.datas ++ [⟨B.1.s, (B.1.p : Int), vs, Q.1⟩], p.binds⟩, G.2, _, _, _, us2, f', HC9, HP9', HL2, fun h => by rw [HT9.out h], rfl, hf2, by simp [HND.out, HNB.out]; omega, by omega⟩
        | false =>
          obtain ⟨f', hf1, hf2, hf3⟩ := programL_top (En := (strB s).size) (n := ts.length + 1) (p := p) hf hts (fun e => by rw [hst] at e; cases e) hs
          have HL2 : Hid (programL (strB s).size (ts.length + 1) f' ⟨p.datas, p.binds ++ [(topF (strB s).size (ts.length + 1) τ).1]⟩ (topF (strB s).size (ts.length + 1) τ).2 = P) := by show _ = _; rw [← hf1]; exact HL.out
          obtain ⟨A, hA⟩ : ∃ A, τ.take (strB s).size (sW tLet) = A := ⟨_, rfl⟩
          obtain ⟨B, hB⟩ : ∃ B, A.2.take (strB s).size sName = B := ⟨_, rfl⟩
          obtain ⟨M, hM⟩ : ∃ M, B.2.toks = M := ⟨_, rfl⟩
          obtain ⟨D, hD⟩ : ∃ D, M.2.take (strB s).size (sS tEq) = D := ⟨_, rfl⟩
          obtain ⟨E1, hE1⟩ : ∃ E1, exprF (strB s).size (ts.length + 1) D.2 = E1 := ⟨_, rfl⟩
          obtain ⟨G, hG⟩ : ∃ G, E1.2.take (strB s).size (sS tSemi) = G := ⟨_, rfl⟩
          have hNm : B.2.names = (M.1.map Tk.s, M.2) := by rw [toks_names, hM]
          have htop : topF (strB s).size (ts.length + 1) τ = (⟨B.1.s, B.1.p, lams (B.1.p : Int) (M.1.map Tk.s) E1.1⟩, G.2) := by unfold topF bindF; rw [hA]; dsimp only; rw [hB, hNm]; dsimp only; rw [hD, hE1, hG]
          have l1 : A.2.ts.length ≤ τ.ts.length := by rw [← hA]; exact take_len _ _ _
          have l2 : B.2.ts.length ≤ A.2.ts.length := by rw [← hB]; exact take_len _ _ _
          have l3 : M.1.length + M.2.ts.length = B.2.ts.length := by rw [← hM]; exact toks_len _
          have l4 : D.2.ts.length ≤ M.2.ts.length := by rw [← hD]; exact take_len _ _ _
          have HML : Hid (M.1.length ≤ 1000000) := by show _ ≤ _; omega
          have HY1 : Hid (∀ (W0 W : World), Cay ⟨R, (strB s).size, a, cp, ts⟩ W0 W D.2 → Calls Try.prog 57 #[.pointer (some ⟨R, 0, none⟩)] W (TellsY ⟨R, (strB s).size, a, cp, ts⟩ W0 W exC E1)) := fun W0 W hc => hE1 ▸ c_expr ⟨R, (strB s).size, a, cp, ts⟩ (ts.length + 1) W0 W D.2 hc (by omega)
          have HQ1 : Hid (G.2.st = false → E1.2.st = false) := fun e => PS.take_st (by rw [hG]; exact e)
          rw [htop] at HL2 hf2 hf3
          have HA := Lib.hid hA
          have HB := Lib.hid hB
          have HMM := Lib.hid hM
          have HD := Lib.hid hD
          have HGS := Lib.hid hG
          have HS := Lib.hid hs
          clear hs hf1 HL hA hB hM hD hE1 hG hNm htop l1 l2 l3 l4 hts hst hpos hf
          go_upto_region 26 with (first
            | (go_at_call 50; refine (c_peek HC.out (sW tData) (askW (by decide) (by decide)) rfl rfl HS.out).mono ?_; clear HC HS; rintro e w7 ⟨rfl, HC, ho1⟩; replace HG := Lib.hid (HG.out.out ho1 hR1 hB3l); clear ho1; replace HC := Lib.hid HC)
            | (go_at_call 51; refine (c_eat HC.out (sW tLet) (askW (by decide) (by decide)) (by decide) rfl rfl HA.out).mono ?_; clear HC HA; rintro e w8 ⟨rfl, HC, ho1⟩; replace HG := Lib.hid (HG.out.out ho1 hR1 hB3l); clear ho1; replace HC := Lib.hid HC)
            | (go_at_call 51; refine (c_eat HC.out sName askName (by decide) rfl rfl HB.out).mono ?_; clear HC HB; rintro e wn ⟨rfl, HC, ho1⟩; replace HG := Lib.hid (HG.out.out ho1 hR1 hB3l); have hlHN := HC.size; have hNn : ¬ (wn.heap.size = R) := (by have := HC.rd.lt; dsimp only at this; omega); have HN := Lib.hid (Box.new wn 103 [.int .i64 (B.1.k : Int), .int .i64 (B.1.p : Int), .string (strB B.1.s), .int .i64 (B.1.n : Int)]); clear ho1; replace HC := Lib.hid (HC.alloc (.cells #[.int .i64 (B.1.k : Int), .int .i64 (B.1.p : Int), .string (strB B.1.s), .int .i64 (B.1.n : Int)] 103)))
            | (go_at_call 52; refine (c_names HC.out HMM.out).mono ?_; clear HC HMM; rintro e w8 ⟨a1, cp1, rfl, htk, HC, ho1⟩; replace HN := Lib.hid (ho1.box HN.out hNn); have HTK := Lib.hid htk; have HO8 := Lib.hid ho1; clear ho1 htk; replace HC := Lib.hid HC)
            | (go_at_call 53; refine (c_sign HC.out tEq (askS (by decide) (by decide)) rfl HD.out).mono ?_; clear HC HD; rintro e w9 ⟨rfl, HC, ho1⟩; replace HN := Lib.hid (ho1.box HN.out hNn); replace HTK := Lib.hid (HTK.out.stay ho1 hR1); have HO9 := Lib.hid ho1; have hnl := HN.out.lt; clear ho1; replace HC := Lib.hid HC))
          have hR9 : R < w9.heap.size := HC.out.rd.lt
          have HS0 := Lib.hid (four_cells (Box.drew HN.out)).2.1
          have HSa := Lib.hid (four_cells (Box.drew (HN.out.alloc (.cells #[.int .i64 0, .int .i64 0, .string ⟨#[]⟩, .int .i64 0, .slice none 0 0, .slice none 0 0] 43)))).2.1
          go_region_held3 (fun w' => w'.cell? ⟨wn.heap.size, 1, none⟩ = some (.int .i64 (B.1.p : Int)))
            (first
              | (with_reducible apply HS0.out)
              | (with_reducible apply HS1.out)
              | (with_reducible apply HS2.out)
              | (with_reducible apply HS3.out)
              | (with_reducible apply HS4.out)
              | (with_reducible apply HSa.out)
              | (with_reducible apply HSc.out)
              | (with_reducible apply HSd.out)
              | (with_reducible apply HSe.out))
            (first
              | (go_at_call 57; (first | ((with_reducible refine (HY1.out (World.drew w9) _ (Cay.start (Cay.drew HC.out).rd)).mono ?_); rintro e w4 ⟨v1, xb, rfl, hv1, hx1, H4, ho1⟩; obtain ⟨y0, y1, y2, y3, y4, y5, y6, y7, y8, y9, yhz, _⟩ := hv1.exs; subst yhz; have hoq := Out.drew2 ho1; have hvq : IsV (New w9) w4 _ _ := newer (W := World.drew w9) (Nat.le_refl _) hv1; have HTK4 : Hid (TokS W1 w4 a1 cp1 M.1) := TokS.stay (w := w9) HTK.out hoq hR1; have HLK := Lib.hid (y_lamsS (New w9) W1 w4 (B.1.p : Int) M.1 xb a1 cp1 _ (fun b hb => by have := hoq.size; unfold New; omega) HML.out HTK4.out hvq); have HLL := Lib.hid (y_lamsS (fun b => New w9 b ∧ b ≠ w4.heap.size) W1 (w4.alloc (.cells #[.int .i64 0, .int .i64 0, .string ⟨#[]⟩, .int .i64 0, .slice none 0 0, .slice none 0 0] 43)) (B.1.p : Int) M.1 xb a1 cp1 _ (fun b hb => by have h3 := hoq.size; rw [World.size_alloc] at hb; unfold New; omega) HML.out (HTK4.out.under ((Below.refl _ w4).alloc (Nat.le_refl _) _)) ((hvq.mono (fun b hb h => ⟨h, by omega⟩)).under ((Below.refl _ w4).alloc (Nat.le_refl _) _)))) | ((with_reducible refine (HY1.out (World.drew (w9.alloc (.cells #[.int .i64 0, .int .i64 0, .string ⟨#[]⟩, .int .i64 0, .slice none 0 0, .slice none 0 0] 43))) _ (Cay.start (Cay.drew (HC.out.alloc _)).rd)).mono ?_); rintro e w4 ⟨v1, xb, rfl, hv1, hx1, H4, ho1⟩; obtain ⟨y0, y1, y2, y3, y4, y5, y6, y7, y8, y9, yhz, _⟩ := hv1.exs; subst yhz; have hoq := out_alloc ho1; have HP4 := Lib.hid (ho1.box (Box.drew (Box.new w9 43 [.int .i64 0, .int .i64 0, .string ⟨#[]⟩, .int .i64 0, .slice none 0 0, .slice none 0 0])) (show ¬ (_ = R) by show ¬ (w9.heap.size = R); omega)); have HTK4 : Hid (TokS W1 w4 a1 cp1 M.1) := TokS.stay (w := w9) HTK.out hoq hR1; have HLK := Lib.hid (y_lamsS (fun b => New w9 b ∧ b ≠ w9.heap.size) W1 w4 (B.1.p : Int) M.1 xb a1 cp1 _ (fun b hb => by have h2 := HP4.out.lt; have h3 := hoq.size; unfold New; omega) HML.out HTK4.out (hv1.mono (fun b hb h => by have h3 : w9.heap.size + 1 ≤ b := (by unfold New at h; simpa using h); unfold New; omega))))); have HTb := Lib.hid hx1; have HN4 := Lib.hid (hoq.box HN.out hNn); have HS1 := Lib.hid (four_cells HN4.out).2.1; have HSc := Lib.hid (four_cells (HN4.out.alloc (.cells #[.int .i64 0, .int .i64 0, .string ⟨#[]⟩, .int .i64 0, .slice none 0 0, .slice none 0 0] 43))).2.1; have hn4 := HN4.out.lt; replace H4 := Lib.hid (HC.out.next H4.rd hoq); have hw94 := hoq.size; have hz4 := hoq.size; have HOQ := Lib.hid hoq; clear ho1 hoq hv1 hx1)
              | (go_at_call 56; (first | (with_reducible refine (HLK.out).mono ?_; rintro e w6 ⟨v6, rfl, hv6, hb6⟩) | (with_reducible refine (HLL.out).mono ?_; rintro e w6 ⟨v6, rfl, hv6, hb6⟩; have HP6 := Lib.hid ((Box.new w4 43 [.int .i64 0, .int .i64 0, .string ⟨#[]⟩, .int .i64 0, .slice none 0 0, .slice none 0 0]).below hb6); replace hb6 := ((Below.refl _ w4).alloc (Nat.le_refl _) (.cells #[.int .i64 0, .int .i64 0, .string ⟨#[]⟩, .int .i64 0, .slice none 0 0, .slice none 0 0] 43)).trans (hb6.mono (by simp)))); obtain ⟨u0, u1, u2, u3, u4, u5, u6, u7, u8, u9, uhz, _⟩ := hv6.exs; subst uhz; have HVu := Lib.hid hv6; (try (have HP6 := Lib.hid (HP4.out.below hb6))); (try (obtain ⟨_, _, _, _, _, _⟩ := six_cells HP6.out; obtain ⟨_, _, _, _, _, _⟩ := six_frozen HP6.out; have hp6 := HP6.out.lt)); have HN6 := Lib.hid (HN4.out.below hb6); have HS2 := Lib.hid (four_cells HN6.out).2.1; have HS3 := Lib.hid (four_cells (HN6.out.alloc (.cells #[.int .i64 0, .int .i64 0, .string ⟨#[]⟩, .int .i64 0, .slice none 0 0, .slice none 0 0] 43))).2.1; have HS4 := Lib.hid (four_cells (HN6.out.alloc (.cells #[.int .i64 u0, .int .i64 u1, .string (strB u3), .int .i64 u2, .slice u4 u6 u8, .slice u5 u7 u9] 43))).2.1; have HSd := Lib.hid (four_cells (Box.set6o HN6.out (B := w4.heap.size) (by omega) (.int .i64 u0) (.int .i64 u1) (.string (strB u3)) (.int .i64 u2) (.slice u4 u6 u8) (.slice u5 u7 u9))).2.1; have HSe := Lib.hid (four_cells (Box.set6o HN6.out (B := w9.heap.size) (by omega) (.int .i64 u0) (.int .i64 u1) (.string (strB u3)) (.int .i64 u2) (.slice u4 u6 u8) (.slice u5 u7 u9))).2.1; have hn6 := HN6.out.lt; have H6 := Lib.hid (H4.out.under hb6); have hz6 := hb6.size; have HB6 := Lib.hid hb6; clear hb6 hv6))
          all_goals (rename_i hh; clear hh HS0 HS1 HS2 HS3 HS4 HSa HSc HSd HSe)
          all_goals (first
            | (have q2 := HN6.out.alloc (.cells #[.int .i64 u0, .int .i64 u1, .string (strB u3), .int .i64 u2, .slice u4 u6 u8, .slice u5 u7 u9] 43); have q3 := H6.out.alloc (.cells #[.int .i64 u0, .int .i64 u1, .string (strB u3), .int .i64 u2, .slice u4 u6 u8, .slice u5 u7 u9] 43); have q4 := Box.new w6 43 [.int .i64 u0, .int .i64 u1, .string (strB u3), .int .i64 u2, .slice u4 u6 u8, .slice u5 u7 u9]; have q5 := HVu.out.under ((Below.refl _ w6).alloc (Nat.le_refl _) (.cells #[.int .i64 u0, .int .i64 u1, .string (strB u3), .int .i64 u2, .slice u4 u6 u8, .slice u5 u7 u9] 43)); have q6 := (HOQ.out.next HB6.out).alloc (.cells #[.int .i64 u0, .int .i64 u1, .string (strB u3), .int .i64 u2, .slice u4 u6 u8, .slice u5 u7 u9] 43); obtain ⟨wu, hwu⟩ : ∃ wu, w6.alloc (.cells #[.int .i64 u0, .int .i64 u1, .string (strB u3), .int .i64 u2, .slice u4 u6 u8, .slice u5 u7 u9] 43) = wu := ⟨_, rfl⟩; rw [hwu] at q2 q3 q4 q5 q6 ⊢; obtain ⟨pb, hpb⟩ : ∃ pb, w6.heap.size = pb := ⟨_, rfl⟩; have hBun : ¬ (pb = R) := (by omega); have hluu : w9.heap.size ≤ pb := (by omega); rw [hpb] at q4 ⊢)
            | (have q2 := Box.set6o HN6.out (B := w4.heap.size) (by omega) (.int .i64 u0) (.int .i64 u1) (.string (strB u3)) (.int .i64 u2) (.slice u4 u6 u8) (.slice u5 u7 u9); have q4 := box_six (v0 := .int .i64 u0) (v1 := .int .i64 u1) (v2 := .string (strB u3)) (v3 := .int .i64 u2) (v4 := .slice u4 u6 u8) (v5 := .slice u5 u7 u9) HP6.out rfl; have q3 := cay_six H6.out (B := w4.heap.size) H4.out.size (.int .i64 u0) (.int .i64 u1) (.string (strB u3)) (.int .i64 u2) (.slice u4 u6 u8) (.slice u5 u7 u9); have q5 := tree_six (B := w4.heap.size) HVu.out (.int .i64 u0) (.int .i64 u1) (.string (strB u3)) (.int .i64 u2) (.slice u4 u6 u8) (.slice u5 u7 u9); have q6 := out_six (HOQ.out.next HB6.out) (B := w4.heap.size) (by omega) (.int .i64 u0) (.int .i64 u1) (.string (strB u3)) (.int .i64 u2) (.slice u4 u6 u8) (.slice u5 u7 u9); obtain ⟨wu, hwu⟩ : ∃ wu, ((((((w6.setCell ⟨w4.heap.size, 0, none⟩ (.int .i64 u0)).setCell ⟨w4.heap.size, 1, none⟩ (.int .i64 u1)).setCell ⟨w4.heap.size, 2, none⟩ (.string (strB u3))).setCell ⟨w4.heap.size, 3, none⟩ (.int .i64 u2)).setCell ⟨w4.heap.size, 4, none⟩ (.slice u4 u6 u8)).setCell ⟨w4.heap.size, 5, none⟩ (.slice u5 u7 u9)) = wu := ⟨_, rfl⟩; rw [hwu] at q2 q3 q4 q5 q6 ⊢; obtain ⟨pb, hpb⟩ : ∃ pb, w4.heap.size = pb := ⟨_, rfl⟩; have hBun : ¬ (pb = R) := (by omega); have hluu : w9.heap.size ≤ pb := (by omega); rw [hpb] at q4 ⊢)
            | (have q2 := Box.set6o HN6.out (B := w9.heap.size) (by omega) (.int .i64 u0) (.int .i64 u1) (.string (strB u3)) (.int .i64 u2) (.slice u4 u6 u8) (.slice u5 u7 u9); have q4 := box_six (v0 := .int .i64 u0) (v1 := .int .i64 u1) (v2 := .string (strB u3)) (v3 := .int .i64 u2) (v4 := .slice u4 u6 u8) (v5 := .slice u5 u7 u9) HP6.out rfl; have q3 := cay_six H6.out (B := w9.heap.size) HC.out.size (.int .i64 u0) (.int .i64 u1) (.string (strB u3)) (.int .i64 u2) (.slice u4 u6 u8) (.slice u5 u7 u9); have q5 := tree_six (B := w9.heap.size) HVu.out (.int .i64 u0) (.int .i64 u1) (.string (strB u3)) (.int .i64 u2) (.slice u4 u6 u8) (.slice u5 u7 u9); have q6 := out_six (HOQ.out.next HB6.out) (B := w9.heap.size) (Nat.le_refl _) (.int .i64 u0) (.int .i64 u1) (.string (strB u3)) (.int .i64 u2) (.slice u4 u6 u8) (.slice u5 u7 u9); obtain ⟨wu, hwu⟩ : ∃ wu, ((((((w6.setCell ⟨w9.heap.size, 0, none⟩ (.int .i64 u0)).setCell ⟨w9.heap.size, 1, none⟩ (.int .i64 u1)).setCell ⟨w9.heap.size, 2, none⟩ (.string (strB u3))).setCell ⟨w9.heap.size, 3, none⟩ (.int .i64 u2)).setCell ⟨w9.heap.size, 4, none⟩ (.slice u4 u6 u8)).setCell ⟨w9.heap.size, 5, none⟩ (.slice u5 u7 u9)) = wu := ⟨_, rfl⟩; rw [hwu] at q2 q3 q4 q5 q6 ⊢; obtain ⟨pb, hpb⟩ : ∃ pb, w9.heap.size = pb := ⟨_, rfl⟩; have hBun : ¬ (pb = R) := (by omega); have hluu : w9.heap.size ≤ pb := (by omega); rw [hpb] at q4 ⊢))
          all_goals (replace HN := Lib.hid q2; replace HC := Lib.hid q3; have HBu := Lib.hid q4; replace HVu := Lib.hid q5; have HOu := Lib.hid q6)
          all_goals (clear q2 q3 q4 q5 q6 hwu hpb HN4 HN6 H4 H6 HTK HTK4 HLK)
          all_goals (try clear HLL)
          all_goals
            have HLW := Lib.hid HG.out.lt
            have hB3n : B3 < w9.heap.size := Nat.lt_trans HG.out.box.lt hnl
            have hW19 : W1.heap.size ≤ w9.heap.size := Nat.le_trans hlHN (Nat.le_of_lt hnl)
            have hn9 := hnl
            have hpu := HBu.out.lt
            have hnu := HN.out.lt
            replace HG := Lib.hid (HG.out.out ((out_first HO8.out).trans (HO9.out.trans HOu.out)) hR1 hB3l)
            (clear HO8 HO9 HOu HB6 HOQ); (try clear hvq); (try clear hn6); (try clear hz6); (try clear hn4); (try clear hz4)
            go_upto_region 28 with (go_at_call 53; refine (c_sign HC.out tSemi (askS (by decide) (by decide)) rfl HGS.out).mono ?_; clear HC HGS; rintro e wv ⟨rfl, HC, ho1⟩; replace HG := Lib.hid (HG.out.out ho1 hR1 hB3l); replace HN := Lib.hid (ho1.box HN.out hNn); replace HBu := Lib.hid (ho1.box HBu.out hBun); replace HVu := Lib.hid (HVu.out.out ho1 (fun b hb hq e => by have e2 : b = R := e; unfold New at hq; omega)); have HSZ := Lib.hid ho1.size; clear ho1; replace HC := Lib.hid HC)
            obtain ⟨_, _, _, _⟩ := four_cells HN.out
            obtain ⟨_, _, _, _⟩ := four_frozen HN.out
            obtain ⟨_, _, _, _, _, _⟩ := six_cells HBu.out
            obtain ⟨_, _, _, _, _, _⟩ := six_frozen HBu.out
            obtain ⟨_, _, _, _⟩ := two_cells HG.out.box
            have hn9v := HN.out.lt
            have hp9v := HBu.out.lt
            have hB3v := HG.out.box.lt
            have HR4 : Hid (wv.ownsRow (B3 + 1) 45 8 (.slice vb nb vd) nb us2) := (by have := HG.out.r2; rw [HNB.out] at this; exact this)
            have Q1 : Hid (nb + 1 ≤ maxLen) := by unfold maxLen; show _ ≤ _; omega
            have Q2 : Hid ((nb + 1) * 112 ≤ 140737488355328) := by show _ ≤ _; omega
            have Q3 : Hid (B3 + 1 ≤ (wv.alloc (.cells #[.string (strB B.1.s), .int .i64 B.1.p, .int .i64 u0, .int .i64 u1, .string (strB u3), .int .i64 u2, .slice u4 u6 u8, .slice u5 u7 u9] 45)).heap.size) := (by show B3 + 1 ≤ _; rw [World.size_alloc]; omega)
            have HnB : Hid (some B3 ≠ (Value.slice vb nb vd).ownBlock) := (fun q => by have := (HLW.out.2 B3 q.symm).1; omega)
            go_wp2_with (at_builtin; refine wpList_append_lies _ rfl _ _ 26 rfl (B3 + 1) 45 j0 (.agg #[.string ⟨#[]⟩, .int .i64 0, .int .i64 0, .int .i64 0, .string ⟨#[]⟩, .int .i64 0, .slice none 0 0, .slice none 0 0]) 8 112 Try.underlying26 hj0 hy0 hy1 hy2 rfl (by decide) (.slice vb nb vd) nb us2 rfl (HR4.out.alloc _) ⟨wv.heap.size, 0, none⟩ 1 1 [.string (strB B.1.s), .int .i64 B.1.p, .int .i64 u0, .int .i64 u1, .string (strB u3), .int .i64 u2, .slice u4 u6 u8, .slice u5 u7 u9] rfl rfl (news_at (cs := [.string (strB B.1.s), .int .i64 B.1.p, .int .i64 u0, .int .i64 u1, .string (strB u3), .int .i64 u2, .slice u4 u6 u8, .slice u5 u7 u9]) rfl) (by simp [Value.oneCell']) (by decide) Q1.out Q2.out Q3.out _ rfl ?_; intro g cap wg hown9 hgrow hat hlt9; have z9 := (HG.out.box.alloc (.cells #[.string (strB B.1.s), .int .i64 B.1.p, .int .i64 u0, .int .i64 u1, .string (strB u3), .int .i64 u2, .slice u4 u6 u8, .slice u5 u7 u9] 45)).grown hgrow HnB.out; obtain ⟨z0, z1, z2, z3⟩ := two_cells z9; have hz9 := z9.lt; have HOWN := Lib.hid hown9; have HGR := Lib.hid hgrow; rw [World.size_alloc] at hat; have HAT := Lib.hid hat; clear z9 hown9 hgrow hat)
            have HD9 : Hid (InS (New w9) wv (bdC ⟨B.1.s, (B.1.p : Int), lams (B.1.p : Int) (M.1.map Tk.s) xb⟩) [.string (strB B.1.s), .int .i64 B.1.p, .int .i64 u0, .int .i64 u1, .string (strB u3), .int .i64 u2, .slice u4 u6 u8, .slice u5 u7 u9]) := by
              have h1 := (IsV.of_bd (us := [.int .i64 u0, .int .i64 u1, .string (strB u3), .int .i64 u2, .slice u4 u6 u8, .slice u5 u7 u9]) (s := B.1.s) (p := (B.1.p : Int)) HVu.out (vs := [.string (strB B.1.s), .int .i64 B.1.p, .int .i64 u0, .int .i64 u1, .string (strB u3), .int .i64 u2, .slice u4 u6 u8, .slice u5 u7 u9]) rfl).cells
              exact Lib.hid (by simpa [Value.cells] using h1)
            have HP9 := HG.out.bind (W2 := w9) (d := ⟨B.1.s, (B.1.p : Int), lams (B.1.p : Int) (M.1.map Tk.s) xb⟩) (vs := [.string (strB B.1.s), .int .i64 B.1.p, .int .i64 u0, .int .i64 u1, .string (strB u3), .int .i64 u2, .slice u4 u6 u8, .slice u5 u7 u9]) HD9.out hW19 hB3n (fun q hq => Nat.lt_trans (HLW.out.1 q hq).2 hn9) (fun q hq => Nat.lt_trans (HLW.out.2 q hq).2 hn9) (by rw [HNB.out]; exact HOWN.out) HGR.out HAT.out
            rw [HNB.out] at HP9
            have HC9 := Lib.hid (((HC.out.alloc (.cells #[.string (strB B.1.s), .int .i64 B.1.p, .int .i64 u0, .int .i64 u1, .string (strB u3), .int .i64 u2, .slice u4 u6 u8, .slice u5 u7 u9] 45)).grow HGR.out (fun q hq => by have := (HLW.out.2 q hq).1; omega)).put hB3l 1 (.slice (some ⟨g, 0, none⟩) (nb + 1) cap))
            have HP9' := Lib.hid HP9
            clear HP9 HD9 HAT HGR HOWN HC HG HR4
            go_roundg G.2.ts.length
            all_goals first
              | exact hf3
              | exact ⟨⟨p.datas, p.binds ++ [⟨B.1.s, (B.1.p : Int), lams (B.1.p : Int) (M.1.map Tk.s) xb⟩]⟩, ⟨p.datas, p.binds ++ [⟨B.1.s, (B.1.p : Int), lams (B.1.p : Int) (M.1.map Tk.s) E1.1⟩]⟩, G.2, _, _, us1, _, f', HC9, HP9', HL2, fun h => by rw [HTb.out (HQ1.out h)], rfl, hf2, by simp [HND.out, HNB.out]; omega, by omega⟩

/-- The document's Parse tells what a text is as a program, or where it is none. -/
theorem y_Parse (s : By) (w : World) (hs : s.length ≤ 65536) {O : Out3} (hO : parseL s = O) :
    Calls Try.prog 22 #[.string (strB s)] w fun e w' => ∃ a b, e = .returned (.agg #[a, b, .int .i64 (O.e : Int), .int .i64 O.at_]) ∧ IsV (New w) w' (pgC O.p) (.agg #[a, b]) ∧ Below w.heap.size w w' := by
  subst hO
  unfold parseL
  cases hx : lexL s 0 with
  | inl i => exact y_par_lex s w hs hx
  | inr ts =>
    have h := y_par_main s w hs hx rfl
    rw [strB_size] at h
    exact h

end Go.Proofs.Ytgkeblpjmfdhkaa
