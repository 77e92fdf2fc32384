/- The law TermMade. -/
import Derived.Test.YtpfcpeljfgmjgaaDoorKxb
import Derived.Test.YtpfcpeljfgmjgaaDoorKxt
import Derived.Test.YtpfcpeljfgmjgaaDoorKrt
import Derived.Test.YtpfcpeljfgmjgaaDoorKdr
namespace Go.Proofs.YtpfcpeljfgmjgaaDoor
open Go.RowKit
set_option linter.unusedVariables false
set_option linter.unusedSimpArgs false

theorem below_drawn17 (w : World) (n : Nat) : Below w.heap.size w (w.drewN n) := ⟨rfl, rfl, rfl, Nat.le_refl _, fun _ _ => rfl⟩
set_option maxRecDepth 100000 in
set_option maxHeartbeats 8000000 in
theorem made_awake (a0 a2 a3 : Option Addr) (N0 N2 N3 c0 c2 c3 : Nat) (n : Int) (w : World) (hl : 24 < N0 ∨ 12 < N2 ∨ 12 < N3) :
    Calls Tryd.prog 6 #[.slice a0 N0 c0, .int .u8 n, .slice a2 N2 c2, .slice a3 N3 c3] w fun e w' => e = .returned (.bool true) ∧ Below w.heap.size w w' := by
  obtain ⟨b0, e0⟩ : ∃ b, decide ((24 : Int) < (N0 : Int)) = b := ⟨_, rfl⟩
  obtain ⟨b2, e2⟩ : ∃ b, decide ((12 : Int) < (N2 : Int)) = b := ⟨_, rfl⟩
  obtain ⟨b3, e3⟩ : ∃ b, decide ((12 : Int) < (N3 : Int)) = b := ⟨_, rfl⟩
  have f0 : decide (24 < N0) = b0 := by rw [← e0]; exact decide_eq_decide.2 (by omega)
  have f2 : decide (12 < N2) = b2 := by rw [← e2]; exact decide_eq_decide.2 (by omega)
  have f3 : decide (12 < N3) = b3 := by rw [← e3]; exact decide_eq_decide.2 (by omega)
  have hl' : b0 = true ∨ (b0 = false ∧ b2 = true) ∨ (b0 = false ∧ b2 = false ∧ b3 = true) := by
    rw [← f0, ← f2, ← f3]
    simp only [decide_eq_true_eq, decide_eq_false_iff_not]; omega
  clear hl
  rcases hl' with rfl | ⟨rfl, rfl⟩ | ⟨rfl, rfl, rfl⟩
  all_goals
    go_enter Tryd.func6, Tryd.ntmps6
    go_wp2_with (go_at_call 19; (with_reducible refine (awake_law _).mono ?_); rintro e w2 ⟨rfl, hb2⟩; have HB2 := Lib.hid hb2; clear hb2)
    go_ret
    exact ⟨rfl, HB2.out⟩

set_option maxRecDepth 100000 in
set_option maxHeartbeats 16000000 in
theorem made_main17 (a0 a2 a3 : Option Addr) (N0 N2 N3 c0 c2 c3 : Nat) (n0 n2 n3 : List Nat) (n : Nat) (w : World) (y0 : BY w a0 n0) (y2 : BY w a2 n2) (y3 : BY w a3 n3)
    (l0 : n0.length = N0) (l2 : n2.length = N2) (l3 : n3.length = N3) (h0 : N0 ≤ 24) (h2 : N2 ≤ 12) (h3 : N3 ≤ 12) (hn : n ≤ 255)
    (d0 : N0 ≤ c0) (d2 : N2 ≤ c2) (d3 : N3 ≤ c3) (m0 : c0 ≤ maxLen) (m2 : c2 ≤ maxLen) (m3 : c3 ≤ maxLen) :
    Calls Tryd.prog 6 #[.slice a0 N0 c0, .int .u8 (n : Int), .slice a2 N2 c2, .slice a3 N3 c3] w fun e w' => e = .returned (.bool true) ∧ Below w.heap.size w w' := by
  have e0 : decide ((24 : Int) < (N0 : Int)) = false := decide_eq_false (by omega)
  have e2 : decide ((12 : Int) < (N2 : Int)) = false := decide_eq_false (by omega)
  have e3 : decide ((12 : Int) < (N3 : Int)) = false := decide_eq_false (by omega)
  have f0 : decide (24 < N0) = false := decide_eq_false (by omega)
  have f2 : decide (12 < N2) = false := decide_eq_false (by omega)
  have f3 : decide (12 < N3) = false := decide_eq_false (by omega)
  obtain ⟨q, hq⟩ : ∃ q, n % 40 = q := ⟨_, rfl⟩
  have ewn : IntKind.i64.wrap (n : Int) = (n : Int) := by rw [IntKind.wrap_i64]; omega
  have eq1 : (n : Int).tmod 40 = (q : Int) := by rw [Int.tmod_eq_emod_of_nonneg (by omega)]; omega
  have eq2 : (n : Int) % 40 = (q : Int) := by omega
  have hq40 : q < 40 := by omega
  obtain ⟨k, hk⟩ : ∃ k, 1 + q = k := ⟨_, rfl⟩
  have hk60 : k ≤ 60 := by omega
  have hk1 : 1 ≤ k := by omega
  have ewk : IntKind.i64.wrap (1 + (q : Int)) = (k : Int) := by rw [IntKind.wrap_i64]; omega
  have ek : 1 + (q : Int) = (k : Int) := by omega
  have MK : ∀ (a : Option Addr) (ns : List Nat) (N c v : Nat), 1 ≤ v → v ≤ 60 → BY w a ns → ns.length = N → N ≤ c → c ≤ maxLen → Hid (∀ W, Below w.heap.size w W → Calls Tryd.prog 34 #[.slice a N c, .int .i64 (v : Int)] W fun e w' => ∃ u, e = .returned u ∧ IsV (fun _ => True) w' (tyC (makeT ns v)) u ∧ Below W.heap.size W w') := by
    intro a ns N c v hv1 hv2 hy hl hc hm
    show ∀ W, _
    intro W hW
    have := mk_all ns a c v W (hy.under hW) (by omega) hm (by omega) (by omega)
    rw [hl] at this
    refine this.mono ?_
    rintro e w' ⟨u, h1, h2, h3⟩
    exact ⟨u, h1, h2.mono fun _ _ _ => trivial, h3⟩
  have MK0 := MK a0 n0 N0 c0 k hk1 hk60 y0 l0 d0 m0
  have MK2 : Hid (∀ W, Below w.heap.size w W → Calls Tryd.prog 34 #[.slice a2 N2 c2, .int .i64 3] W fun e w' => ∃ u, e = .returned u ∧ IsV (fun _ => True) w' (tyC (makeT n2 3)) u ∧ Below W.heap.size W w') := MK a2 n2 N2 c2 3 (by omega) (by omega) y2 l2 d2 m2
  have MK3 : Hid (∀ W, Below w.heap.size w W → Calls Tryd.prog 34 #[.slice a3 N3 c3, .int .i64 5] W fun e w' => ∃ u, e = .returned u ∧ IsV (fun _ => True) w' (tyC (makeT n3 5)) u ∧ Below W.heap.size W w') := MK a3 n3 N3 c3 5 (by omega) (by omega) y3 l3 d3 m3
  have hF := mk_facts n0 k (by omega) hk60
  have lim2 := mayL_lim 100 _ (mk_may n2 3 (by omega) (by omega))
  have lim3 := mayL_lim 100 _ (mk_may n3 5 (by omega) (by omega))
  obtain ⟨t, ht⟩ : ∃ t, makeT n0 k = t := ⟨_, rfl⟩
  obtain ⟨s0, hs0⟩ : ∃ t, makeT n2 3 = t := ⟨_, rfl⟩
  obtain ⟨s1, hs1⟩ : ∃ t, makeT n3 5 = t := ⟨_, rfl⟩
  rw [ht] at MK0 hF
  rw [hs0] at MK2 lim2
  rw [hs1] at MK3 lim3
  have hlt := mayL_lim 100 t hF.1
  have HF := Lib.hid hF
  have HLT := Lib.hid hlt
  have HLS : Hid (∀ x ∈ [s0, s1], x.sz ≤ 1000 ∧ x.wd ≤ 1000) := by
    show ∀ x ∈ [s0, s1], _
    intro x hx; simp at hx; rcases hx with rfl | rfl
    · exact lim2
    · exact lim3
  clear MK y0 y2 y3 l0 l2 l3 h0 h2 h3 d0 d2 d3 m0 m2 m3 ht hs0 hs1 hF lim2 lim3 hlt hk hq
  go_enter Tryd.func6, Tryd.ntmps6
  go_upto_region 4 with (go_at_call 34; (with_reducible refine (MK0.out _ (Below.refl _ w)).mono ?_); rintro e w1 ⟨v1, rfl, hv1, hb1⟩; have HV1 := Lib.hid hv1; obtain ⟨kt, nt, st, at', mt, ct, rfl⟩ := hv1.tys; have HB1 := Lib.hid hb1; clear hv1 hb1)
  obtain ⟨WA, hWA⟩ : ∃ W, w1.alloc (.cells #[.int .i64 kt, .int .i64 nt, .string (strB st), .slice at' mt ct] 47) = W := ⟨_, rfl⟩
  have hbWA : Below w1.heap.size w1 WA := hWA ▸ (Below.refl _ w1).alloc (Nat.le_refl _) _
  have hxWA : Box WA w1.heap.size 47 [.int .i64 kt, .int .i64 nt, .string (strB st), .slice at' mt ct] := hWA ▸ Box.new w1 47 [.int .i64 kt, .int .i64 nt, .string (strB st), .slice at' mt ct]
  have HXWA := Lib.hid hxWA
  have HLWA : Hid (Below w1.heap.size w1 WA) := hbWA
  have HBA : Hid (Below w.heap.size w WA) := HB1.out.trans (hbWA.mono HB1.out.size)
  have HVA := Lib.hid (HV1.out.under hbWA)
  rw [hWA]
  clear hWA hbWA hxWA
  go_upto_region 5 with (first
    | (go_at_call 34; (with_reducible refine (MK2.out _ HBA.out).mono ?_); rintro e w2 ⟨v2, rfl, hv2, hb2⟩; have HV2 := Lib.hid hv2; obtain ⟨k2, j2, z2, p2, m2, g2, rfl⟩ := hv2.tys; have HR2 := Lib.hid hb2; have HB2 : Hid (Below w.heap.size w w2) := (HBA.out).trans (hb2.mono (HBA.out).size); clear hv2 hb2)
    | (go_at_call 34; (with_reducible refine (MK3.out _ HB2.out).mono ?_); rintro e w3 ⟨v3, rfl, hv3, hb3⟩; have HV3 := Lib.hid hv3; obtain ⟨k3, j3, z3, p3, m3, g3, rfl⟩ := hv3.tys; have HR3 := Lib.hid hb3; have HB3 : Hid (Below w.heap.size w w3) := (HB2.out).trans (hb3.mono (HB2.out).size); clear hv3 hb3))
  obtain ⟨w9, hw9⟩ : ∃ W, w3.alloc (.cells #[.int .i64 k2, .int .i64 j2, .string (strB z2), .slice p2 m2 g2, .int .i64 k3, .int .i64 j3, .string (strB z3), .slice p3 m3 g3] 47) = W := ⟨_, rfl⟩
  have hbw9 : Below w3.heap.size w3 w9 := hw9 ▸ (Below.refl _ w3).alloc (Nat.le_refl _) _
  have hxw9 : Box w9 w3.heap.size 47 [.int .i64 k2, .int .i64 j2, .string (strB z2), .slice p2 m2 g2, .int .i64 k3, .int .i64 j3, .string (strB z3), .slice p3 m3 g3] := hw9 ▸ Box.new w3 47 [.int .i64 k2, .int .i64 j2, .string (strB z2), .slice p2 m2 g2, .int .i64 k3, .int .i64 j3, .string (strB z3), .slice p3 m3 g3]
  have HXw9 := Lib.hid hxw9
  have HLw9 : Hid (Below w3.heap.size w3 w9) := hbw9
  have HBB : Hid (Below w.heap.size w w9) := HB3.out.trans (hbw9.mono HB3.out.size)
  have HIS : Hid (InC (fun _ => True) w9 (.s [s0, s1].length 4 (tysC [s0, s1])) (.slice (some ⟨w3.heap.size, 0, none⟩) 2 2)) := hw9 ▸ two_new (HV2.out.under HR3.out) HV3.out trivial
  have HAB : Hid (Below WA.heap.size WA w9) := HR2.out.trans ((HR3.out.trans (hbw9.mono HR3.out.size)).mono HR2.out.size)
  rw [hw9]
  clear hw9 hbw9 hxw9
  have HVT : Hid (IsV (fun _ => True) w9 (tyC t) (.agg #[.int .i64 kt, .int .i64 nt, .string (strB st), .slice at' mt ct])) := HVA.out.under HAB.out
  have HBT := Lib.hid (HXWA.out.below HAB.out)
  obtain ⟨_, _, _, _⟩ := four_cells HBT.out
  have hlT := HBT.out.lt
  clear e0 e2 e3 f0 f2 f3 MK0 MK2 MK3
  obtain ⟨qn, hqn⟩ : ∃ q, min t.nn 401 = q := ⟨_, rfl⟩
  have C1 : Hid (∀ W, Below w9.heap.size w9 W → Calls Tryd.prog 20 #[.agg #[.int .i64 kt, .int .i64 nt, .string (strB st), .slice at' mt ct]] W fun e w' => e = .returned (.bool true) ∧ Below W.heap.size W w') := by
    show ∀ W, _
    intro W hW
    have := ty_May t _ _ W (HVT.out.under hW) (by have := HLT.out.1; unfold maxLen; omega)
    rwa [HF.out.1] at this
  have C2 : Hid (∀ W, Below w9.heap.size w9 W → Calls Tryd.prog 22 #[.agg #[.int .i64 kt, .int .i64 nt, .string (strB st), .slice at' mt ct]] W fun e w' => e = .returned (.int .i64 (qn : Int)) ∧ Below W.heap.size W w') := by
    show ∀ W, _
    intro W hW
    have := ty_Size t _ _ W (HVT.out.under hW)
    rwa [hqn] at this
  have C3 : Hid (∀ W, Below w9.heap.size w9 W → Calls Tryd.prog 23 #[.agg #[.int .i64 kt, .int .i64 nt, .string (strB st), .slice at' mt ct]] W fun e w' => e = .returned (.int .i64 (qn : Int)) ∧ Below W.heap.size W w') := by
    show ∀ W, _
    intro W hW
    have := r_Size t _ _ W (HVT.out.under hW)
    rwa [hqn] at this
  have C4 : Hid (∀ W, Below w9.heap.size w9 W → Calls Tryd.prog 27 #[.agg #[.int .i64 kt, .int .i64 nt, .string (strB st), .slice at' mt ct]] W fun e w' => ∃ a c, e = .returned (.slice a (varsL t).length c) ∧ Row 0 w'.heap.size w' a (varsL t).length (varsL t) ∧ Below W.heap.size W w') := by
    show ∀ W, _
    intro W hW
    refine (ty_Vars t _ _ W (HVT.out.under hW) HF.out.1 (by have := HF.out.2.1; omega)).mono ?_
    rintro e w' ⟨a, c, h1, h2, h3⟩
    exact ⟨a, c, h1, h2.mono (Nat.zero_le _) (Nat.le_refl _), h3⟩
  have C5 : Hid (∀ W, Below w9.heap.size w9 W → Calls Tryd.prog 28 #[.agg #[.int .i64 kt, .int .i64 nt, .string (strB st), .slice at' mt ct]] W fun e w' => ∃ a c, e = .returned (.slice a (varsL t).length c) ∧ Row 0 w'.heap.size w' a (varsL t).length (varsL t) ∧ Below W.heap.size W w') := by
    show ∀ W, _
    intro W hW
    exact r_Vars t _ _ W (HVT.out.under hW) (by have := HF.out.2.1; omega)
  have C6 : Hid (∀ (W : World) (a b : Option Addr) (ca cb : Nat), Row 0 W.heap.size W a (varsL t).length (varsL t) → Row 0 W.heap.size W b (varsL t).length (varsL t) → Calls Tryd.prog 15 #[.slice a (varsL t).length ca, .slice b (varsL t).length cb] W fun e w' => e = .returned (.bool true) ∧ Below W.heap.size W w') := by
    show ∀ (W : World) (a b : Option Addr) (ca cb : Nat), _
    intro W a b ca cb h1 h2
    refine (ints_any a b _ _ ca cb _ _ W h1 h2 (by have h3 := varsL_len t; have := HF.out.2.1; omega)).mono ?_
    rintro e w' ⟨rfl, nd, rfl⟩
    exact ⟨by rw [decide_eq_true rfl], below_drawn17 W nd⟩
  have C7 : Hid (∀ W, Below w9.heap.size w9 W → Calls Tryd.prog 29 #[.agg #[.int .i64 kt, .int .i64 nt, .string (strB st), .slice at' mt ct], .slice (some ⟨w3.heap.size, 0, none⟩) 2 2] W fun e w' => ∃ v, e = .returned v ∧ IsV (fun _ => True) w' (tyC (substL [s0, s1] t)) v ∧ Below W.heap.size W w') := by
    show ∀ W, _
    intro W hW
    refine (ty_Subst t [s0, s1] (fun _ => True) (fun _ => True) _ _ _ W (HVT.out.under hW) (HIS.out.under hW) HF.out.1 HLS.out).mono ?_
    rintro e w' ⟨u, h1, h2, h3⟩
    exact ⟨u, h1, h2.mono fun _ _ _ => trivial, h3⟩
  have C8 : Hid (∀ W, Below w9.heap.size w9 W → Calls Tryd.prog 26 #[.agg #[.int .i64 kt, .int .i64 nt, .string (strB st), .slice at' mt ct], .slice (some ⟨w3.heap.size, 0, none⟩) 2 2] W fun e w' => ∃ v, e = .returned v ∧ IsV (fun _ => True) w' (tyC (substL [s0, s1] t)) v ∧ Below W.heap.size W w') := by
    show ∀ W, _
    intro W hW
    refine (r_Subst t [s0, s1] (fun _ => True) (fun _ => True) _ _ _ W (HVT.out.under hW) (HIS.out.under hW) ⟨100, HF.out.1⟩).mono ?_
    rintro e w' ⟨u, h1, h2, h3⟩
    exact ⟨u, h1, h2.mono fun _ _ _ => trivial, h3⟩
  have C10 : Hid (∀ W, Below w9.heap.size w9 W → Calls Tryd.prog 30 #[.agg #[.int .i64 kt, .int .i64 nt, .string (strB st), .slice at' mt ct]] W fun e w' => ∃ v, e = .returned v ∧ IsV (fun _ => True) w' (tyC (canonL t)) v ∧ Below W.heap.size W w') := by
    show ∀ W, _
    intro W hW
    refine (ty_Canon t _ _ W (HVT.out.under hW) HF.out.1 (by have := HF.out.2.1; omega)).mono ?_
    rintro e w' ⟨u, h1, h2, h3⟩
    exact ⟨u, h1, h2.mono fun _ _ _ => trivial, h3⟩
  have C11 : Hid (∀ W, Below w9.heap.size w9 W → Calls Tryd.prog 31 #[.agg #[.int .i64 kt, .int .i64 nt, .string (strB st), .slice at' mt ct]] W fun e w' => ∃ v, e = .returned v ∧ IsV (fun _ => True) w' (tyC (canonL t)) v ∧ Below W.heap.size W w') := by
    show ∀ W, _
    intro W hW
    refine (r_Canon t _ _ W (HVT.out.under hW) ⟨100, HF.out.1⟩ (by have := HF.out.2.1; omega)).mono ?_
    rintro e w' ⟨u, h1, h2, h3⟩
    exact ⟨u, h1, h2.mono fun _ _ _ => trivial, h3⟩
  have C9 : Hid (∀ (W : World) (x : Ty) (u u' : Value), IsV (fun _ => True) W (tyC x) u → IsV (fun _ => True) W (tyC x) u' → Calls Tryd.prog 25 #[u, u'] W fun e w' => e = .returned (.bool true) ∧ Below W.heap.size W w') := by
    show ∀ (W : World) (x : Ty) (u u' : Value), _
    intro W x u u' hu hu'
    have := r_SameType x x _ _ _ _ W hu hu'
    rwa [eqD_self] at this
  obtain ⟨zX, hzX⟩ : ∃ z, strB (textL t) = z := ⟨_, rfl⟩
  have C12 : Hid (∀ W, Below w9.heap.size w9 W → Calls Tryd.prog 32 #[.agg #[.int .i64 kt, .int .i64 nt, .string (strB st), .slice at' mt ct]] W fun e w' => e = .returned (.string zX) ∧ Below W.heap.size W w') := by
    show ∀ W, _
    intro W hW
    have := ty_Text t _ _ W (HVT.out.under hW) HF.out.1 (by have := HF.out.2.1; omega) (HF.out.2.2 _ _)
    rwa [hzX] at this
  have C13 : Hid (∀ W, Below w9.heap.size w9 W → Calls Tryd.prog 33 #[.agg #[.int .i64 kt, .int .i64 nt, .string (strB st), .slice at' mt ct]] W fun e w' => e = .returned (.string zX) ∧ Below W.heap.size W w') := by
    show ∀ W, _
    intro W hW
    have := r_Text t _ _ W (HVT.out.under hW) ⟨100, HF.out.1⟩ (by have := HF.out.2.1; omega)
    rwa [hzX] at this
  have HR9 : Hid (Below w9.heap.size w9 w9) := Below.refl _ w9
  have HK9 : Hid (∀ w', Below w9.heap.size w9 w' → Below w9.heap.size w9 w' ∧ w'.cell? ⟨w1.heap.size, 0, none⟩ = some (.int .i64 kt) ∧ w'.cell? ⟨w1.heap.size, 1, none⟩ = some (.int .i64 nt) ∧ w'.cell? ⟨w1.heap.size, 2, none⟩ = some (.string (strB st)) ∧ w'.cell? ⟨w1.heap.size, 3, none⟩ = some (.slice at' mt ct)) := fun w' hw' => ⟨hw', four_cells (HBT.out.below hw')⟩
  clear hqn hzX HF HLT HLS HIS HVT HV1 HVA HV2 HV3
  go_region_held3 (fun w' => Below w9.heap.size w9 w' ∧ w'.cell? ⟨w1.heap.size, 0, none⟩ = some (.int .i64 kt) ∧ w'.cell? ⟨w1.heap.size, 1, none⟩ = some (.int .i64 nt) ∧ w'.cell? ⟨w1.heap.size, 2, none⟩ = some (.string (strB st)) ∧ w'.cell? ⟨w1.heap.size, 3, none⟩ = some (.slice at' mt ct))
    (first
      | with_reducible exact HK9.out _ HR9.out
      | with_reducible exact HK9.out _ HR9.out.drew
      | with_reducible exact HK9.out _ (below_c17 (And.left (by assumption)) hb11)
      | with_reducible exact HK9.out _ (below_c17 (And.left (by assumption)) hb12)
      | with_reducible exact HK9.out _ (below_c17 (And.left (by assumption)) hb13)
      | with_reducible exact HK9.out _ (below_c17 (And.left (by assumption)) hb14)
      | with_reducible exact HK9.out _ (below_c17 (And.left (by assumption)) hb15)
      | with_reducible exact HK9.out _ (below_c17 (And.left (by assumption)) hb16)
      | with_reducible exact HK9.out _ (below_c17 (And.left (by assumption)) hb17)
      | with_reducible exact HK9.out _ (below_c17 (And.left (by assumption)) hb18)
      | with_reducible exact HK9.out _ (below_c17 (And.left (by assumption)) hb19)
      | with_reducible exact HK9.out _ (below_c17 (And.left (by assumption)) hb20)
      | with_reducible exact HK9.out _ (below_c17 (And.left (by assumption)) hb21)
      | with_reducible exact HK9.out _ (below_c17 (And.left (by assumption)) hb22)
      | with_reducible exact HK9.out _ (below_c17 (And.left (by assumption)) hb23)
      | with_reducible exact HK9.out _ (below_c17 (And.left (by assumption)) hb24)
      | with_reducible exact HK9.out _ (below_c17 (And.left (by assumption)) hb25))
    (first
      | (go_at_call 20; (with_reducible refine (C1.out _ (And.left (by assumption))).mono ?_); rintro e v11 ⟨rfl, hb11⟩)
      | (go_at_call 22; (with_reducible refine (C2.out _ (And.left (by assumption))).mono ?_); rintro e v12 ⟨rfl, hb12⟩)
      | (go_at_call 23; (with_reducible refine (C3.out _ (And.left (by assumption))).mono ?_); rintro e v13 ⟨rfl, hb13⟩)
      | (go_at_call 27; (with_reducible refine (C4.out _ (And.left (by assumption))).mono ?_); rintro e v14 ⟨a14, c14, rfl, hr14, hb14⟩; have HW14 := Lib.hid hr14; clear hr14)
      | (go_at_call 28; (with_reducible refine (C5.out _ (And.left (by assumption))).mono ?_); rintro e v15 ⟨a15, c15, rfl, hr15, hb15⟩; have HW15 := Lib.hid hr15; have HW14b := Lib.hid ((HW14.out.below hb15 (Nat.le_refl _)).mono (Nat.le_refl _) hb15.size); clear hr15)
      | (go_at_call 15; (with_reducible refine (C6.out _ _ _ _ _ HW14b.out HW15.out).mono ?_); rintro e v16 ⟨rfl, hb16⟩)
      | (go_at_call 29; (with_reducible refine (C7.out _ (And.left (by assumption))).mono ?_); rintro e v17 ⟨x17, rfl, hv17, hb17⟩; have HV17 := Lib.hid hv17; obtain ⟨k17, j17, z17, p17, m17, g17, rfl⟩ := hv17.tys; clear hv17)
      | (go_at_call 26; (with_reducible refine (C8.out _ (And.left (by assumption))).mono ?_); rintro e v18 ⟨x18, rfl, hv18, hb18⟩; have HV18 := Lib.hid hv18; have HV17b := Lib.hid (HV17.out.under hb18); obtain ⟨k18, j18, z18, p18, m18, g18, rfl⟩ := hv18.tys; clear hv18)
      | (go_at_call 25; (with_reducible refine (C9.out _ _ _ _ HV17b.out HV18.out).mono ?_); rintro e v19 ⟨rfl, hb19⟩)
      | (go_at_call 30; (with_reducible refine (C10.out _ (And.left (by assumption))).mono ?_); rintro e v20 ⟨x20, rfl, hv20, hb20⟩; have HV20 := Lib.hid hv20; obtain ⟨k20, j20, z20, p20, m20, g20, rfl⟩ := hv20.tys; clear hv20)
      | (go_at_call 31; (with_reducible refine (C11.out _ (And.left (by assumption))).mono ?_); rintro e v21 ⟨x21, rfl, hv21, hb21⟩; have HV21 := Lib.hid hv21; have HV20b := Lib.hid (HV20.out.under hb21); obtain ⟨k21, j21, z21, p21, m21, g21, rfl⟩ := hv21.tys; clear hv21)
      | (go_at_call 25; (with_reducible refine (C9.out _ _ _ _ HV20b.out HV21.out).mono ?_); rintro e v22 ⟨rfl, hb22⟩)
      | (go_at_call 32; (with_reducible refine (C12.out _ (And.left (by assumption))).mono ?_); rintro e v23 ⟨rfl, hb23⟩)
      | (go_at_call 33; (with_reducible refine (C13.out _ (And.left (by assumption))).mono ?_); rintro e v24 ⟨rfl, hb24⟩)
      | (go_at_call 19; (with_reducible refine (awake_law _).mono ?_); rintro e v25 ⟨rfl, hb25⟩))
  all_goals (have HB25 : Hid (Below w9.heap.size w9 v25) := Lib.hid (And.left (by assumption)))
  all_goals go_wp2_with fail
  all_goals go_ret
  all_goals exact ⟨rfl, HBB.out.trans (HB25.out.mono HBB.out.size)⟩

theorem made_law17 (a0 a2 a3 : Option Addr) (N0 N2 N3 c0 c2 c3 : Nat) (n0 n2 n3 : List Nat) (n : Nat) (w : World) (y0 : BY w a0 n0) (y2 : BY w a2 n2) (y3 : BY w a3 n3)
    (l0 : n0.length = N0) (l2 : n2.length = N2) (l3 : n3.length = N3) (hn : n ≤ 255)
    (d0 : N0 ≤ c0) (d2 : N2 ≤ c2) (d3 : N3 ≤ c3) (m0 : c0 ≤ maxLen) (m2 : c2 ≤ maxLen) (m3 : c3 ≤ maxLen) :
    Calls Tryd.prog 6 #[.slice a0 N0 c0, .int .u8 (n : Int), .slice a2 N2 c2, .slice a3 N3 c3] w fun e w' => e = .returned (.bool true) ∧ Below w.heap.size w w' := by
  by_cases h : 24 < N0 ∨ 12 < N2 ∨ 12 < N3
  · exact made_awake a0 a2 a3 N0 N2 N3 c0 c2 c3 n w h
  · exact made_main17 a0 a2 a3 N0 N2 N3 c0 c2 c3 n0 n2 n3 n w y0 y2 y3 l0 l2 l3 (by omega) (by omega) (by omega) hn d0 d2 d3 m0 m2 m3

end Go.Proofs.YtpfcpeljfgmjgaaDoor
