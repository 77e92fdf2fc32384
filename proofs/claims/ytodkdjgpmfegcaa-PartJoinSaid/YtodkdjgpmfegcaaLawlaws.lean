/- The walk of the law PartLaws: it returns true and changes nothing that was there. -/
import Derived.Test.YtodkdjgpmfegcaaLawle
import Derived.IntWalk
namespace Go.Proofs.Ytodkdjgpmfegcaa
open Go.RowKit
set_option linter.unusedVariables false

theorem sameB_nat {p : List Nat} {n x y : Nat} (hl : p.length = n) (hx : x < n) (hy : y < n) : sameB p x y = decide (el p x = el p y) := by
  unfold sameB; rw [decide_eq_decide]; simp; omega
theorem sameB_out {p : List Nat} {x y : Int} (h : ¬ (0 ≤ x ∧ x < (p.length : Int) ∧ 0 ≤ y ∧ y < (p.length : Int))) : sameB p x y = false := by
  unfold sameB; apply decide_eq_false; rintro ⟨a, b, c, d, _⟩; exact h ⟨a, b, c, d⟩
theorem cls_le_len (p : List Nat) : clsN p ≤ p.length := clsK_le p p.length

set_option maxRecDepth 100000 in
set_option maxHeartbeats 2000000 in
theorem laws_law (b : Option Addr) (lb cb : Nat) (xb : List Nat) (n x y z : Nat) (w : World) (hn : n ≤ 255) (hx : x ≤ 255) (hy : y ≤ 255) (hz : z ≤ 255) (hb : RowY 0 w.heap.size w b lb xb) (bb : ∀ i, i < lb → xb.getD i 0 ≤ 255) :
    Calls Try.prog 6 #[.int .u8 (n : Int), .slice b lb cb, .int .u8 (x : Int), .int .u8 (y : Int), .int .u8 (z : Int)] w fun e w' => e = .returned (.bool true) ∧ Below w.heap.size w w' := by
  have hB := Lib.hid hb
  have hbB := Lib.hid bb
  clear hb bb
  obtain ⟨k, hk⟩ : ∃ k : Nat, (n : Int) % 30 = (k : Int) := ⟨n % 30, by omega⟩
  have hk30 : k < 30 := by omega
  obtain ⟨K, hK⟩ : ∃ K : Nat, (1 : Int) + (k : Int) = (K : Int) := ⟨1 + k, by omega⟩
  have hK30 : K ≤ 30 := by omega
  have hK0 : 0 < K := by omega
  by_cases h1 : 60 < lb
  · go_enter Try.func6, Try.ntmps6
    go_wp2_with (go_at_call 9; refine (awake_any _).mono ?_; rintro e w' ⟨rfl, hb⟩)
    go_ret
    exact ⟨rfl, hb⟩
  · go_enter Try.func6, Try.ntmps6
    go_wp2_with fail
    refine (pairs_m _ _ _ xb K _ hB.out hbB.out (Nat.le_refl _) (by omega) (by omega)).mono ?_
    rintro e w1 ⟨a1, m1, c1, rfl, hm1, hr1, _, hb1⟩
    have hs1 := hb1.size
    go_wp2_with fail
    refine (of_nat K _ _ _ (prs xb K) _ hr1 (Nat.le_refl _) (by omega) (prs_fits (by omega)) (by omega)).mono ?_
    rintro e w2 ⟨a2, c2, rfl, hr2, hb2⟩
    have hs2 := hb2.size
    have k2 := hb1.trans (hb2.mono hs1)
    clear hr1 hb1 hb2
    obtain ⟨X, hX⟩ : ∃ X : Nat, x % K = X := ⟨_, rfl⟩
    obtain ⟨Y, hY⟩ : ∃ Y : Nat, y % K = Y := ⟨_, rfl⟩
    obtain ⟨Z, hZ⟩ : ∃ Z : Nat, z % K = Z := ⟨_, rfl⟩
    have hXK : X < K := by rw [← hX]; exact Nat.mod_lt _ hK0
    have hYK : Y < K := by rw [← hY]; exact Nat.mod_lt _ hK0
    have hZK : Z < K := by rw [← hZ]; exact Nat.mod_lt _ hK0
    have t1 : (x : Int).tmod (K : Int) = (X : Int) := by rw [← hX]; exact (Int.ofNat_tmod x K).symm
    have t2 : (y : Int).tmod (K : Int) = (Y : Int) := by rw [← hY]; exact (Int.ofNat_tmod y K).symm
    have t3 : (z : Int).tmod (K : Int) = (Z : Int) := by rw [← hZ]; exact (Int.ofNat_tmod z K).symm
    have u1 : IntKind.i64.wrap (x : Int) = (x : Int) := IntWalk.i64_in _ (by omega)
    have u2 : IntKind.i64.wrap (y : Int) = (y : Int) := IntWalk.i64_in _ (by omega)
    have u3 : IntKind.i64.wrap (z : Int) = (z : Int) := IntWalk.i64_in _ (by omega)
    have v1 : IntKind.i64.wrap (X : Int) = (X : Int) := IntWalk.i64_in _ (by omega)
    have v2 : IntKind.i64.wrap (Y : Int) = (Y : Int) := IntWalk.i64_in _ (by omega)
    have v3 : IntKind.i64.wrap (Z : Int) = (Z : Int) := IntWalk.i64_in _ (by omega)
    have n0 : ¬ K = 0 := by omega
    have n1 : ((K : Int) == 0) = false := by simp; omega
    clear hX hY hZ
    go_wp2_with fail
    go_quiet (fail)
    clear t1 t2 t3 u1 u2 u3 v1 v2 v3 n1
    have hp0 : RowN w1.heap.size (w2.drewN nq).heap.size (w2.drewN nq) a2 K (ofL K (prs xb K)) := hr2.drewN nq
    have k3 : Below w.heap.size w (w2.drewN nq) := below_drewN k2 nq
    have hs3 : w1.heap.size ≤ (w2.drewN nq).heap.size := hs2
    clear hr2 k2 hs2
    generalize w2.drewN nq = w3 at *
    obtain ⟨p, hpe⟩ : ∃ p, ofL K (prs xb K) = p := ⟨_, rfl⟩
    have gp : Good p := hpe ▸ good_of _ _
    have lp : p.length = K := hpe ▸ ofL_length _ _
    rw [hpe] at hp0
    clear hpe
    have LP := Lib.hid lp
    clear lp
    go_wp2_with fail
    refine (unite_any _ _ _ p _ _ _ hp0 (Nat.le_refl _) (by omega)).mono ?_
    rintro e w4 ⟨a4, c4, rfl, hu, hb4⟩
    have hs4 := hb4.size
    have hp := hp0.below hb4 (Nat.le_refl _)
    have k4 := k3.trans (hb4.mono (by omega))
    obtain ⟨u, hue⟩ : ∃ u, uniL p X Y = u := ⟨_, rfl⟩
    have gu : Good u := hue ▸ good_uni gp _ _
    have lu : u.length = K := by rw [← hue, uniL_length]; exact LP.out
    rw [hue] at hu
    clear hp0 k3 hb4
    have hKm : K ≤ 9223372036854775807 := by omega
    obtain ⟨is, hIS⟩ : ∃ v, sameB p X Y = v := ⟨_, rfl⟩
    obtain ⟨bc, hBC⟩ : ∃ v, sameB p Y Z = v := ⟨_, rfl⟩
    obtain ⟨ac, hAC⟩ : ∃ v, sameB p X Z = v := ⟨_, rfl⟩
    have hBA : sameB p Y X = is := by rw [sameB_nat LP.out hYK hXK, ← hIS, sameB_nat LP.out hXK hYK, decide_eq_decide]; exact eq_comm
    have hAA : sameB p X X = true := by rw [sameB_nat LP.out hXK hXK]; simp
    have hin : inB p X Y = true := by have := LP.out; simp only [inB, decide_eq_true_eq]; omega
    have hUS : sameB u X Y = true := by
      rw [sameB_nat lu hXK hYK, ← hue]
      have := uni_same hin
      simpa using this
    have hAK : sameB p X K = false := sameB_out (by have := LP.out; omega)
    have hMA : sameB p (-1) X = false := sameB_out (by omega)
    have hEQ : decide (u = p) = is := by
      rw [← hue, ← hIS, sameB_nat LP.out hXK hYK, decide_eq_decide]
      exact ⟨fun h => Decidable.byContradiction fun hne => uni_ne gp hin (by simpa using hne) h, fun h => uni_one (by simpa using h)⟩
    obtain ⟨cu, hCU⟩ : ∃ v, clsN u = v := ⟨_, rfl⟩
    obtain ⟨cp, hCP⟩ : ∃ v, clsN p = v := ⟨_, rfl⟩
    have hcu : cu ≤ K := by rw [← hCU, ← lu]; exact cls_le_len u
    have hCL : (is = true → cp = cu) ∧ (is = false → cp = cu + 1) := by
      rw [← hIS, sameB_nat LP.out hXK hYK, ← hCU, ← hCP, ← hue]
      refine ⟨fun h => by rw [uni_one (by simpa using h)], fun h => (cls_uni gp hin (by simpa using h)).symm⟩
    have hTR : is = true → bc = true → ac = true := by
      rw [← hIS, ← hBC, ← hAC, sameB_nat LP.out hXK hYK, sameB_nat LP.out hYK hZK, sameB_nat LP.out hXK hZK]
      intro h1 h2
      exact decide_eq_true ((of_decide_eq_true h1).trans (of_decide_eq_true h2))
    have HD := Lib.hid k4
    have HAA := Lib.hid (lift (w6 := w4) fun w' h => same_b a2 K c2 p X X w' (hp.below h (by omega)) hKm true hAA)
    have HAB := Lib.hid (lift (w6 := w4) fun w' h => same_b a2 K c2 p X Y w' (hp.below h (by omega)) hKm is hIS)
    have HBA := Lib.hid (lift (w6 := w4) fun w' h => same_b a2 K c2 p Y X w' (hp.below h (by omega)) hKm is hBA)
    have HBC := Lib.hid (lift (w6 := w4) fun w' h => same_b a2 K c2 p Y Z w' (hp.below h (by omega)) hKm bc hBC)
    have HAC := Lib.hid (lift (w6 := w4) fun w' h => same_b a2 K c2 p X Z w' (hp.below h (by omega)) hKm ac hAC)
    have HUS := Lib.hid (lift (w6 := w4) fun w' h => same_b a4 K c4 u X Y w' (hu.below h (by omega)) hKm true hUS)
    have HAK := Lib.hid (lift (w6 := w4) fun w' h => same_b a2 K c2 p X K w' (hp.below h (by omega)) hKm false hAK)
    have HMA := Lib.hid (lift (w6 := w4) fun w' h => same_b a2 K c2 p (-1) X w' (hp.below h (by omega)) hKm false hMA)
    have HEQ := Lib.hid (lift (w6 := w4) fun w' h => ints_b a4 a2 K K c4 c2 u p w' (hu.below h (by omega)) (hp.below h (by omega)) hKm is hEQ)
    have HCU := Lib.hid (lift (w6 := w4) fun w' h => cls_b a4 K c4 u w' (hu.below h (by omega)) hKm cu hCU)
    have HCP := Lib.hid (lift (w6 := w4) fun w' h => cls_b a2 K c2 p w' (hp.below h (by omega)) hKm cp hCP)
    have HAW := Lib.hid (lift (w6 := w4) fun w' _ => awake_any w')
    have HB : Below w4.heap.size w4 w4 := Below.refl _ _
    have hcase : (is = false ∧ cp = cu + 1) ∨ (is = true ∧ bc = false ∧ cp = cu) ∨ (is = true ∧ bc = true ∧ ac = true ∧ cp = cu) := by
      obtain ⟨h1, h2⟩ := hCL
      cases is with
      | false => exact .inl ⟨rfl, h2 rfl⟩
      | true => cases bc with
        | false => exact .inr (.inl ⟨rfl, rfl, h1 rfl⟩)
        | true => exact .inr (.inr ⟨rfl, rfl, hTR rfl rfl, h1 rfl⟩)
    clear gp LP gu lu hue hIS hBC hAC hBA hAA hin hUS hAK hMA hEQ hCU hCP hCL hTR hp hu k4
    rcases hcase with ⟨rfl, rfl⟩ | ⟨rfl, rfl, rfl⟩ | ⟨rfl, rfl, rfl, rfl⟩
    all_goals
      go_wp2_with (first
        | (go_at_call 15; (with_reducible refine (HAA.out _ HB).mono ?_); clear HB; rintro e wz ⟨rfl, HB⟩)
        | (go_at_call 15; (with_reducible refine (HAB.out _ HB).mono ?_); clear HB; rintro e wz ⟨rfl, HB⟩)
        | (go_at_call 15; (with_reducible refine (HBA.out _ HB).mono ?_); clear HB; rintro e wz ⟨rfl, HB⟩)
        | (go_at_call 15; (with_reducible refine (HBC.out _ HB).mono ?_); clear HB; rintro e wz ⟨rfl, HB⟩)
        | (go_at_call 15; (with_reducible refine (HAC.out _ HB).mono ?_); clear HB; rintro e wz ⟨rfl, HB⟩)
        | (go_at_call 15; (with_reducible refine (HUS.out _ HB).mono ?_); clear HB; rintro e wz ⟨rfl, HB⟩)
        | (go_at_call 15; (with_reducible refine (HAK.out _ HB).mono ?_); clear HB; rintro e wz ⟨rfl, HB⟩)
        | (go_at_call 15; (with_reducible refine (HMA.out _ HB).mono ?_); clear HB; rintro e wz ⟨rfl, HB⟩)
        | (go_at_call 12; (with_reducible refine (HEQ.out _ HB).mono ?_); clear HB; rintro e wz ⟨rfl, HB⟩)
        | (go_at_call 19; (with_reducible refine (HCU.out _ HB).mono ?_); clear HB; rintro e wz ⟨rfl, HB⟩)
        | (go_at_call 19; (with_reducible refine (HCP.out _ HB).mono ?_); clear HB; rintro e wz ⟨rfl, HB⟩)
        | (go_at_call 9; (with_reducible refine (HAW.out _ HB).mono ?_); clear HB; rintro e wz ⟨rfl, HB⟩))
      go_ret
      exact ⟨rfl, HD.out.trans (Below.mono (B := w4.heap.size) HB HD.out.size)⟩

end Go.Proofs.Ytodkdjgpmfegcaa
