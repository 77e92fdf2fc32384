/- The walk of the law PartLe: it returns true and changes nothing that was there. -/
import Derived.Test.YtodkdjgpmfegcaaAwake
namespace Go.Proofs.Ytodkdjgpmfegcaa
open Go.RowKit
set_option linter.unusedVariables false

theorem lift {P : Program} {f : FuncId} {args : Array Value} {w6 : World} {v : Value} (h : ∀ w', Below w6.heap.size w6 w' → Calls P f args w' fun e w'' => e = .returned v ∧ Below w'.heap.size w' w'') :
    ∀ w', Below w6.heap.size w6 w' → Calls P f args w' fun e w'' => e = .returned v ∧ Below w6.heap.size w6 w'' := fun w' hw => (h w' hw).mono fun e w'' ⟨a, b⟩ => ⟨a, hw.trans (b.mono hw.size)⟩

def Len (p : List Nat) (n : Nat) : Prop := p.length = n

set_option maxRecDepth 100000 in
set_option maxHeartbeats 1000000 in
theorem le_law (a b c : Option Addr) (la lb lc ca cb cc : Nat) (xa xb xc : List Nat) (n : Nat) (w : World) (hn : n ≤ 255) (ha : RowY 0 w.heap.size w a la xa) (hb : RowY 0 w.heap.size w b lb xb) (hc : RowY 0 w.heap.size w c lc xc)
    (ba : ∀ i, i < la → xa.getD i 0 ≤ 255) (bb : ∀ i, i < lb → xb.getD i 0 ≤ 255) (bc : ∀ i, i < lc → xc.getD i 0 ≤ 255) :
    Calls Try.prog 7 #[.int .u8 (n : Int), .slice a la ca, .slice b lb cb, .slice c lc cc] w fun e w' => e = .returned (.bool true) ∧ Below w.heap.size w w' := by
  have hA := Lib.hid ha
  have hB := Lib.hid hb
  have hC := Lib.hid hc
  have hbA := Lib.hid ba
  have hbB := Lib.hid bb
  have hbC := Lib.hid bc
  clear ha hb hc ba bb bc
  obtain ⟨k, hk⟩ : ∃ k : Nat, (n : Int) % 20 = (k : Int) := ⟨n % 20, by omega⟩
  have hk20 : k < 20 := by omega
  by_cases h1 : 40 < la
  · go_enter Try.func7, Try.ntmps7
    go_wp2_with (go_at_call 9; refine (awake_any _).mono ?_; rintro e w' ⟨rfl, hb⟩)
    go_ret
    exact ⟨rfl, hb⟩
  · by_cases h2 : 40 < lb
    · go_enter Try.func7, Try.ntmps7
      go_wp2_with (go_at_call 9; refine (awake_any _).mono ?_; rintro e w' ⟨rfl, hb⟩)
      go_ret
      exact ⟨rfl, hb⟩
    · by_cases h3 : 40 < lc
      · go_enter Try.func7, Try.ntmps7
        go_wp2_with (go_at_call 9; refine (awake_any _).mono ?_; rintro e w' ⟨rfl, hb⟩)
        go_ret
        exact ⟨rfl, hb⟩
      · go_enter Try.func7, Try.ntmps7
        go_wp2_with fail
        refine (pairs_m _ _ _ xa k _ hA.out hbA.out (Nat.le_refl _) (by omega) (by omega)).mono ?_
        rintro e w1 ⟨a1, m1, c1, rfl, hm1, hr1, _, hb1⟩
        have hs1 := hb1.size
        go_wp2_with fail
        refine (of_nat k _ _ _ (prs xa k) _ hr1 (Nat.le_refl _) (by omega) (prs_fits (by omega)) (by omega)).mono ?_
        rintro e w2 ⟨a2, c2, rfl, hr2, hb2⟩
        have hs2 := hb2.size
        have k2 := hb1.trans (hb2.mono hs1)
        clear hr1 hb1 hb2
        go_wp2_with fail
        refine (pairs_m _ _ _ xb k _ (hB.out.below k2 (Nat.le_refl _)) hbB.out k2.size (by omega) (by omega)).mono ?_
        rintro e w3 ⟨a3, m3, c3, rfl, hm3, hr3, _, hb3⟩
        have hs3 := hb3.size
        have hr2b := hr2.below hb3 (Nat.le_refl _)
        go_wp2_with fail
        refine (of_nat k _ _ _ (prs xb k) _ hr3 (Nat.le_refl _) (by omega) (prs_fits (by omega)) (by omega)).mono ?_
        rintro e w4 ⟨a4, c4, rfl, hr4, hb4⟩
        have hs4 := hb4.size
        have hr2c := hr2b.below hb4 (by omega)
        have k4 := (k2.trans (hb3.mono (by omega))).trans (hb4.mono (by omega))
        clear hr2 hr2b hr3 hb3 hb4 k2
        go_wp2_with fail
        refine (pairs_m _ _ _ xc k _ (hC.out.below k4 (Nat.le_refl _)) hbC.out k4.size (by omega) (by omega)).mono ?_
        rintro e w5 ⟨a5, m5, c5, rfl, hm5, hr5, _, hb5⟩
        have hs5 := hb5.size
        have hr2d := hr2c.below hb5 (by omega)
        have hr4d := hr4.below hb5 (Nat.le_refl _)
        go_wp2_with fail
        refine (of_nat k _ _ _ (prs xc k) _ hr5 (Nat.le_refl _) (by omega) (prs_fits (by omega)) (by omega)).mono ?_
        rintro e w6 ⟨a6, c6, rfl, hr6, hb6⟩
        have hs6 := hb6.size
        have hp := hr2d.below hb6 (by omega)
        have hq := hr4d.below hb6 (by omega)
        have k6 := (k4.trans (hb5.mono (by omega))).trans (hb6.mono (by omega))
        obtain ⟨p, hpe⟩ : ∃ p, ofL k (prs xa k) = p := ⟨_, rfl⟩
        obtain ⟨q, hqe⟩ : ∃ q, ofL k (prs xb k) = q := ⟨_, rfl⟩
        obtain ⟨r, hre⟩ : ∃ r, ofL k (prs xc k) = r := ⟨_, rfl⟩
        have gp : Good p := hpe ▸ good_of _ _
        have gq : Good q := hqe ▸ good_of _ _
        have gr : Good r := hre ▸ good_of _ _
        have lp : p.length = k := hpe ▸ ofL_length _ _
        rw [hpe] at hp
        rw [hqe] at hq
        rw [hre] at hr6
        have hkm : k ≤ 9223372036854775807 := by omega
        have HD := Lib.hid k6
        obtain ⟨ab, hab⟩ : ∃ v, leB p q = v := ⟨_, rfl⟩
        obtain ⟨bc, hbc⟩ : ∃ v, leB q r = v := ⟨_, rfl⟩
        obtain ⟨ac, hac⟩ : ∃ v, leB p r = v := ⟨_, rfl⟩
        obtain ⟨ba, hba⟩ : ∃ v, leB q p = v := ⟨_, rfl⟩
        obtain ⟨eq, heq⟩ : ∃ v, decide (p = q) = v := ⟨_, rfl⟩
        have hcase : (ab = false ∧ eq = false) ∨ (ab = true ∧ bc = true ∧ ac = true ∧ ba = true ∧ eq = true) ∨ (ab = true ∧ bc = true ∧ ac = true ∧ ba = false ∧ eq = false) ∨ (ab = true ∧ bc = false ∧ ba = true ∧ eq = true) ∨ (ab = true ∧ bc = false ∧ ba = false ∧ eq = false) := by
          have e1 : ab = true → bc = true → ac = true := fun h1 h2 => hac ▸ le_trans' gp gq (hab.trans h1) (hbc.trans h2)
          have e2 : ab = true → ba = true → eq = true := fun h1 h2 => heq ▸ decide_eq_true (le_antisymm' gp gq (hab.trans h1) (hba.trans h2))
          have e3 : eq = true → ab = true ∧ ba = true := fun h => by
            have : p = q := of_decide_eq_true (heq.trans h)
            subst this
            exact ⟨hab ▸ le_refl' gp, hba ▸ le_refl' gp⟩
          revert e1 e2 e3
          cases ab <;> cases bc <;> cases ac <;> cases ba <;> cases eq <;> simp
        have HAA := Lib.hid (lift (w6 := w6) fun w' h => le_b a2 a2 k c2 k c2 p p w' (hp.below h (by omega)) (hp.below h (by omega)) gp hkm true (le_refl' gp))
        have HAB := Lib.hid (lift (w6 := w6) fun w' h => le_b a2 a4 k c2 k c4 p q w' (hp.below h (by omega)) (hq.below h (by omega)) gp hkm ab hab)
        have HBC := Lib.hid (lift (w6 := w6) fun w' h => le_b a4 a6 k c4 k c6 q r w' (hq.below h (by omega)) (hr6.below h (by omega)) gq hkm bc hbc)
        have HAC := Lib.hid (lift (w6 := w6) fun w' h => le_b a2 a6 k c2 k c6 p r w' (hp.below h (by omega)) (hr6.below h (by omega)) gp hkm ac hac)
        have HBA := Lib.hid (lift (w6 := w6) fun w' h => le_b a4 a2 k c4 k c2 q p w' (hq.below h (by omega)) (hp.below h (by omega)) gq hkm ba hba)
        have HEQ := Lib.hid (lift (w6 := w6) fun w' h => ints_b a2 a4 k k c2 c4 p q w' (hp.below h (by omega)) (hq.below h (by omega)) hkm eq heq)
        have HAW := Lib.hid (lift (w6 := w6) fun w' _ => awake_any w')
        have HNEW : Hid (∀ w', Below w6.heap.size w6 w' → Calls Try.prog 13 #[.int .i64 (k : Int)] w' fun e w'' => ∃ g, e = .returned (.slice (some ⟨g, 0, none⟩) k k) ∧ Hid (RowN w6.heap.size w''.heap.size w'' (some ⟨g, 0, none⟩) k (List.range k)) ∧ Below w6.heap.size w6 w'') := fun w' h => by
          have := new_any (k : Int) w'
          rw [cutN_nat (by omega)] at this
          exact this.mono fun e w'' ⟨g, h1, h2, h3, h4, h5⟩ => ⟨g, h1, h4.rowN (by simp) (Nat.le_trans h.size h2) h3, h.trans (h5.mono h.size)⟩
        have HLN : Hid (∀ g w', Hid (RowN w6.heap.size w'.heap.size w' (some ⟨g, 0, none⟩) k (List.range k)) → Below w6.heap.size w6 w' → Calls Try.prog 21 #[.slice (some ⟨g, 0, none⟩) k k, .slice a2 k c2] w' fun e w'' => e = .returned (.bool true) ∧ Below w6.heap.size w6 w'') := fun g w' hr h =>
          (le_b _ a2 k k k c2 (List.range k) p w' hr.out (hp.below h (by omega)) (good_range k) hkm true (le_range lp)).mono fun e w'' ⟨h1, h2⟩ => ⟨h1, h.trans (h2.mono h.size)⟩
        have HRF : Below w6.heap.size w6 w6 := Below.refl _ _
        clear hpe hqe hre gp gq gr lp hab hbc hac hba heq hp hq hr2c hr2d hr4 hr4d hr5 hr6 hb5 hb6 k4 k6
        rcases hcase with ⟨rfl, rfl⟩ | ⟨rfl, rfl, rfl, rfl, rfl⟩ | ⟨rfl, rfl, rfl, rfl, rfl⟩ | ⟨rfl, rfl, rfl, rfl⟩ | ⟨rfl, rfl, rfl, rfl⟩
        all_goals
          go_wp2_with (first
            | (go_at_call 21; (with_reducible refine (HAA.out _ (by assumption)).mono ?_); rintro e wz ⟨rfl, hbz⟩)
            | (go_at_call 21; (with_reducible refine (HAB.out _ (by assumption)).mono ?_); rintro e wz ⟨rfl, hbz⟩)
            | (go_at_call 21; (with_reducible refine (HBC.out _ (by assumption)).mono ?_); rintro e wz ⟨rfl, hbz⟩)
            | (go_at_call 21; (with_reducible refine (HAC.out _ (by assumption)).mono ?_); rintro e wz ⟨rfl, hbz⟩)
            | (go_at_call 21; (with_reducible refine (HBA.out _ (by assumption)).mono ?_); rintro e wz ⟨rfl, hbz⟩)
            | (go_at_call 21; (with_reducible refine (HLN.out _ _ (by assumption) (by assumption)).mono ?_); rintro e wz ⟨rfl, hbz⟩)
            | (go_at_call 12; (with_reducible refine (HEQ.out _ (by assumption)).mono ?_); rintro e wz ⟨rfl, hbz⟩)
            | (go_at_call 13; (with_reducible refine (HNEW.out _ (by assumption)).mono ?_); rintro e wz ⟨gz, rfl, hrz, hbz⟩)
            | (go_at_call 9; (with_reducible refine (HAW.out _ (by assumption)).mono ?_); rintro e wz ⟨rfl, hbz⟩))
          go_ret
          exact ⟨rfl, HD.out.trans (Below.mono (B := w6.heap.size) (by assumption) HD.out.size)⟩

end Go.Proofs.Ytodkdjgpmfegcaa
