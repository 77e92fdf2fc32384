/- The law TermSubst. -/
import Derived.Test.YtpfcpeljfgmjgaaDoorKlw
import Derived.Deep.RegionHeld3
namespace Go.Proofs.YtpfcpeljfgmjgaaDoor
open Go.RowKit
set_option linter.unusedVariables false
set_option linter.unusedSimpArgs false

theorem below_c17 {w0 w1 w2 : World} (h : Below w0.heap.size w0 w1) (hb : Below w1.heap.size w1 w2) : Below w0.heap.size w0 w2 := h.trans (hb.mono h.size)
theorem below_a17 {w0 w1 : World} (h : Below w0.heap.size w0 w1) (o : Obj) : Below w0.heap.size w0 (w1.alloc o) := h.alloc h.size o
theorem eight_cells {w : World} {b : Nat} {t : TypeId} {c0 c1 c2 c3 c4 c5 c6 c7 : Value} (h : Box w b t [c0, c1, c2, c3, c4, c5, c6, c7]) : w.cell? ⟨b, 0, none⟩ = some c0 ∧ w.cell? ⟨b, 1, none⟩ = some c1 ∧ w.cell? ⟨b, 2, none⟩ = some c2 ∧ w.cell? ⟨b, 3, none⟩ = some c3 ∧ w.cell? ⟨b, 4, none⟩ = some c4 ∧ w.cell? ⟨b, 5, none⟩ = some c5 ∧ w.cell? ⟨b, 6, none⟩ = some c6 ∧ w.cell? ⟨b, 7, none⟩ = some c7 :=
  ⟨h.cell 0, h.cell 1, h.cell 2, h.cell 3, h.cell 4, h.cell 5, h.cell 6, h.cell 7⟩
theorem mk_may (ns : List Nat) (k : Nat) (hn : ns.length ≤ 24) (hk : k ≤ 60) : mayL 100 (makeT ns k) = true :=
  (makeT_mk ns k).may (by omega) 100 (by have := makeT_deep ns k; omega)
theorem sub_may {v : Nat} {l : List Ty} {t : Ty} (hl : ∀ x ∈ l, MkT v x) (hv : v ≤ l.length) (hv2 : v ≤ 60) (hd : ∀ x ∈ l, x.deep ≤ 30) (k : MkT v t) (ht : t.deep ≤ 30) : mayL 100 (substL l t) = true ∧ (substL l t).deep ≤ 60 := by
  have h := Ty.rep_deep (f := substF l) (N := 30) (substF_deep (by decide) hd) t
  have h2 : (substL l t).deep ≤ 60 := by unfold substL; omega
  exact ⟨(MkT.sub hl hv k).may (by omega) 100 (by omega), h2⟩
theorem sub_id (t : Ty) (k : MkT 2 t) : substL [] t = t := MkT.rep_id (v := 2) (fun n _ => by simp [substF]) k
theorem sub_vars (t : Ty) (k : MkT 2 t) : substL [vrT 0, vrT 1] t = t := MkT.rep_id (v := 2) (fun n hn => by
  rcases (by omega : n = 0 ∨ n = 1) with rfl | rfl <;> rfl) k
theorem sub_sub (t s0 s1 r0 r1 : Ty) (k : MkT 2 t) : substL [r0, r1] (substL [s0, s1] t) = substL [substL [r0, r1] s0, substL [r0, r1] s1] t := by
  unfold substL
  exact MkT.rep_rep (v := 2) (fun n hn => by
    rcases (by omega : n = 0 ∨ n = 1) with rfl | rfl <;> rfl) k
theorem eqD_self (t : Ty) : eqD t t = true := by simp [eqD]

set_option maxRecDepth 100000 in
set_option maxHeartbeats 8000000 in
theorem subst_awake (a0 a1 a2 a3 : Option Addr) (N0 N1 N2 N3 c0 c1 c2 c3 : Nat) (w : World) (hl : 16 < N0 ∨ 8 < N1 ∨ 8 < N2 ∨ 8 < N3) :
    Calls Tryd.prog 7 #[.slice a0 N0 c0, .slice a1 N1 c1, .slice a2 N2 c2, .slice a3 N3 c3] w fun e w' => e = .returned (.bool true) ∧ Below w.heap.size w w' := by
  obtain ⟨b0, e0⟩ : ∃ b, decide ((16 : Int) < (N0 : Int)) = b := ⟨_, rfl⟩
  obtain ⟨b1, e1⟩ : ∃ b, decide ((8 : Int) < (N1 : Int)) = b := ⟨_, rfl⟩
  obtain ⟨b2, e2⟩ : ∃ b, decide ((8 : Int) < (N2 : Int)) = b := ⟨_, rfl⟩
  obtain ⟨b3, e3⟩ : ∃ b, decide ((8 : Int) < (N3 : Int)) = b := ⟨_, rfl⟩
  have f0 : decide (16 < N0) = b0 := by rw [← e0]; exact decide_eq_decide.2 (by omega)
  have f1 : decide (8 < N1) = b1 := by rw [← e1]; exact decide_eq_decide.2 (by omega)
  have f2 : decide (8 < N2) = b2 := by rw [← e2]; exact decide_eq_decide.2 (by omega)
  have f3 : decide (8 < N3) = b3 := by rw [← e3]; exact decide_eq_decide.2 (by omega)
  have hl' : b0 = true ∨ (b0 = false ∧ b1 = true) ∨ (b0 = false ∧ b1 = false ∧ b2 = true) ∨ (b0 = false ∧ b1 = false ∧ b2 = false ∧ b3 = true) := by
    rw [← f0, ← f1, ← f2, ← f3]
    simp only [decide_eq_true_eq, decide_eq_false_iff_not]; omega
  clear hl
  rcases hl' with rfl | ⟨rfl, rfl⟩ | ⟨rfl, rfl, rfl⟩ | ⟨rfl, rfl, rfl, rfl⟩
  all_goals
    go_enter Tryd.func7, Tryd.ntmps7
    go_wp2_with (go_at_call 19; (with_reducible refine (awake_law _).mono ?_); rintro e w2 ⟨rfl, hb2⟩; have HB2 := Lib.hid hb2; clear hb2)
    go_ret
    exact ⟨rfl, HB2.out⟩

set_option maxRecDepth 100000 in
set_option maxHeartbeats 8000000 in
theorem subst_main (a0 a1 a2 a3 : Option Addr) (N0 N1 N2 N3 c0 c1 c2 c3 : Nat) (n0 n1 n2 n3 : List Nat) (w : World) (y0 : BY w a0 n0) (y1 : BY w a1 n1) (y2 : BY w a2 n2) (y3 : BY w a3 n3)
    (l0 : n0.length = N0) (l1 : n1.length = N1) (l2 : n2.length = N2) (l3 : n3.length = N3) (h0 : N0 ≤ 16) (h1 : N1 ≤ 8) (h2 : N2 ≤ 8) (h3 : N3 ≤ 8)
    (d0 : N0 ≤ c0) (d1 : N1 ≤ c1) (d2 : N2 ≤ c2) (d3 : N3 ≤ c3) (m0 : c0 ≤ maxLen) (m1 : c1 ≤ maxLen) (m2 : c2 ≤ maxLen) (m3 : c3 ≤ maxLen) :
    Calls Tryd.prog 7 #[.slice a0 N0 c0, .slice a1 N1 c1, .slice a2 N2 c2, .slice a3 N3 c3] w fun e w' => e = .returned (.bool true) ∧ Below w.heap.size w w' := by
  have e0 : decide ((16 : Int) < (N0 : Int)) = false := decide_eq_false (by omega)
  have e1 : decide ((8 : Int) < (N1 : Int)) = false := decide_eq_false (by omega)
  have e2 : decide ((8 : Int) < (N2 : Int)) = false := decide_eq_false (by omega)
  have e3 : decide ((8 : Int) < (N3 : Int)) = false := decide_eq_false (by omega)
  have f0 : decide (16 < N0) = false := decide_eq_false (by omega)
  have f1 : decide (8 < N1) = false := decide_eq_false (by omega)
  have f2 : decide (8 < N2) = false := decide_eq_false (by omega)
  have f3 : decide (8 < N3) = false := decide_eq_false (by omega)
  have MK : ∀ (a : Option Addr) (ns : List Nat) (N c : Nat), BY w a ns → ns.length = N → N ≤ c → c ≤ maxLen → Hid (∀ W, Below w.heap.size w W → Calls Tryd.prog 34 #[.slice a N c, .int .i64 2] W fun e w' => ∃ u, e = .returned u ∧ IsV (fun _ => True) w' (tyC (makeT ns 2)) u ∧ Below W.heap.size W w') := by
    intro a ns N c hy hl hc hm
    show ∀ W, _
    intro W hW
    have := mk_all ns a c 2 W (hy.under hW) (by omega) hm (by omega) (by omega)
    rw [hl] at this
    refine this.mono ?_
    rintro e w' ⟨u, h1, h2, h3⟩
    exact ⟨u, h1, h2.mono fun _ _ _ => trivial, h3⟩
  have MK0 := MK a0 n0 N0 c0 y0 l0 d0 m0
  have MK1 := MK a1 n1 N1 c1 y1 l1 d1 m1
  have MK2 := MK a2 n2 N2 c2 y2 l2 d2 m2
  have MK3 := MK a3 n3 N3 c3 y3 l3 d3 m3
  have kt := makeT_mk n0 2
  have k0 := makeT_mk n1 2
  have k1 := makeT_mk n2 2
  have kr := makeT_mk n3 2
  have gt : (makeT n0 2).deep ≤ 30 := by have := makeT_deep n0 2; omega
  have g0 : (makeT n1 2).deep ≤ 30 := by have := makeT_deep n1 2; omega
  have g1 : (makeT n2 2).deep ≤ 30 := by have := makeT_deep n2 2; omega
  have gr : (makeT n3 2).deep ≤ 30 := by have := makeT_deep n3 2; omega
  obtain ⟨t, ht⟩ : ∃ t, makeT n0 2 = t := ⟨_, rfl⟩
  obtain ⟨s0, hs0⟩ : ∃ t, makeT n1 2 = t := ⟨_, rfl⟩
  obtain ⟨s1, hs1⟩ : ∃ t, makeT n2 2 = t := ⟨_, rfl⟩
  obtain ⟨r0, hr0⟩ : ∃ t, makeT n3 2 = t := ⟨_, rfl⟩
  rw [ht] at MK0 kt gt
  rw [hs0] at MK1 k0 g0
  rw [hs1] at MK2 k1 g1
  rw [hr0] at MK3 kr gr
  have mt : mayL 100 t = true := kt.may (by omega) 100 (by omega)
  have ms0 : mayL 100 s0 = true := k0.may (by omega) 100 (by omega)
  have ms1 : mayL 100 s1 = true := k1.may (by omega) 100 (by omega)
  have mr0 : mayL 100 r0 = true := kr.may (by omega) 100 (by omega)
  have limS : ∀ x ∈ [s0, s1], x.sz ≤ 1000 ∧ x.wd ≤ 1000 := by
    intro x hx; simp at hx; rcases hx with rfl | rfl
    · exact mayL_lim 100 _ ms0
    · exact mayL_lim 100 _ ms1
  have limR : ∀ x ∈ [r0, s0], x.sz ≤ 1000 ∧ x.wd ≤ 1000 := by
    intro x hx; simp at hx; rcases hx with rfl | rfl
    · exact mayL_lim 100 _ mr0
    · exact mayL_lim 100 _ ms0
  have hRm : ∀ x ∈ [r0, s0], MkT 2 x := by intro x hx; simp at hx; rcases hx with rfl | rfl <;> assumption
  have hRd : ∀ x ∈ [r0, s0], x.deep ≤ 30 := by intro x hx; simp at hx; rcases hx with rfl | rfl <;> assumption
  have hSm : ∀ x ∈ [s0, s1], MkT 2 x := by intro x hx; simp at hx; rcases hx with rfl | rfl <;> assumption
  have hSd : ∀ x ∈ [s0, s1], x.deep ≤ 30 := by intro x hx; simp at hx; rcases hx with rfl | rfl <;> assumption
  have mX0 := (sub_may hRm (by simp) (by decide) hRd k0 g0).1
  have mX1 := (sub_may hRm (by simp) (by decide) hRd k1 g1).1
  have mST := (sub_may hSm (by simp) (by decide) hSd kt gt).1
  obtain ⟨X0, hX0⟩ : ∃ x, substL [r0, s0] s0 = x := ⟨_, rfl⟩
  obtain ⟨X1, hX1⟩ : ∃ x, substL [r0, s0] s1 = x := ⟨_, rfl⟩
  obtain ⟨ST, hST⟩ : ∃ x, substL [s0, s1] t = x := ⟨_, rfl⟩
  have q1 := sub_id t kt
  have q2 := sub_sub t s0 s1 r0 s0 kt
  have q3 := sub_vars t kt
  rw [hX0] at mX0
  rw [hX1] at mX1
  rw [hST] at mST
  rw [hST, hX0, hX1] at q2
  have limX : ∀ x ∈ [X0, X1], x.sz ≤ 1000 ∧ x.wd ≤ 1000 := by
    intro x hx; simp at hx; rcases hx with rfl | rfl
    · exact mayL_lim 100 _ mX0
    · exact mayL_lim 100 _ mX1
  have limV : ∀ x ∈ [vrT 0, vrT 1], x.sz ≤ 1000 ∧ x.wd ≤ 1000 := by
    intro x hx; simp at hx; rcases hx with rfl | rfl <;> exact mayL_lim 100 _ (by decide)
  have HMATH : Hid (mayL 100 t = true ∧ mayL 100 s0 = true ∧ mayL 100 s1 = true ∧ mayL 100 ST = true ∧ (∀ x ∈ [s0, s1], x.sz ≤ 1000 ∧ x.wd ≤ 1000) ∧ (∀ x ∈ [r0, s0], x.sz ≤ 1000 ∧ x.wd ≤ 1000) ∧ (∀ x ∈ [X0, X1], x.sz ≤ 1000 ∧ x.wd ≤ 1000) ∧ (∀ x ∈ [vrT 0, vrT 1], x.sz ≤ 1000 ∧ x.wd ≤ 1000)) := ⟨mt, ms0, ms1, mST, limS, limR, limX, limV⟩
  have HEQ : Hid (substL [] t = t ∧ substL [r0, s0] ST = substL [X0, X1] t ∧ substL [vrT 0, vrT 1] t = t ∧ substL [r0, s0] s0 = X0 ∧ substL [r0, s0] s1 = X1 ∧ substL [s0, s1] t = ST) := ⟨q1, q2, q3, hX0, hX1, hST⟩
  clear MK y0 y1 y2 y3 l0 l1 l2 l3 h0 h1 h2 h3 d0 d1 d2 d3 m0 m1 m2 m3 kt k0 k1 kr gt g0 g1 gr ht hs0 hs1 hr0 mt ms0 ms1 mr0 limS limR hRm hRd hSm hSd mX0 mX1 mST hX0 hX1 hST q1 q2 q3 limX limV
  go_enter Tryd.func7, Tryd.ntmps7
  go_upto_region 4 with (go_at_call 34; (with_reducible refine (MK0.out _ (Below.refl _ w)).mono ?_); rintro e w1 ⟨v1, rfl, hv1, hb1⟩; have HV1 := Lib.hid hv1; obtain ⟨kt, nt, st, at', mt, ct, rfl⟩ := hv1.tys; have HB1 := Lib.hid hb1; clear hv1 hb1)
  obtain ⟨WA, hWA⟩ : ∃ W, w1.alloc (.cells #[.int .i64 kt, .int .i64 nt, .string (strB st), .slice at' mt ct] 47) = W := ⟨_, rfl⟩
  have hbWA : Below w1.heap.size w1 WA := hWA ▸ (Below.refl _ w1).alloc (Nat.le_refl _) _
  have hxWA : Box WA w1.heap.size 47 [.int .i64 kt, .int .i64 nt, .string (strB st), .slice at' mt ct] := hWA ▸ Box.new w1 47 [.int .i64 kt, .int .i64 nt, .string (strB st), .slice at' mt ct]
  have HXWA := Lib.hid hxWA
  have HLWA : Hid (Below w1.heap.size w1 WA) := hbWA
  have HBA : Hid (Below w.heap.size w WA) := HB1.out.trans (hbWA.mono HB1.out.size)
  have HVA := Lib.hid (HV1.out.under hbWA)
  rw [hWA]
  clear hWA hbWA hxWA
  go_upto_region 5 with (first
    | (go_at_call 34; (with_reducible refine (MK1.out _ HBA.out).mono ?_); rintro e w2 ⟨v2, rfl, hv2, hb2⟩; have HV2 := Lib.hid hv2; obtain ⟨k2, j2, z2, p2, m2, g2, rfl⟩ := hv2.tys; have HR2 := Lib.hid hb2; have HB2 : Hid (Below w.heap.size w w2) := (HBA.out).trans (hb2.mono (HBA.out).size); clear hv2 hb2)
    | (go_at_call 34; (with_reducible refine (MK2.out _ HB2.out).mono ?_); rintro e w3 ⟨v3, rfl, hv3, hb3⟩; have HV3 := Lib.hid hv3; obtain ⟨k3, j3, z3, p3, m3, g3, rfl⟩ := hv3.tys; have HR3 := Lib.hid hb3; have HB3 : Hid (Below w.heap.size w w3) := (HB2.out).trans (hb3.mono (HB2.out).size); clear hv3 hb3))
  obtain ⟨WB, hWB⟩ : ∃ W, w3.alloc (.cells #[.int .i64 k2, .int .i64 j2, .string (strB z2), .slice p2 m2 g2, .int .i64 k3, .int .i64 j3, .string (strB z3), .slice p3 m3 g3] 47) = W := ⟨_, rfl⟩
  have hbWB : Below w3.heap.size w3 WB := hWB ▸ (Below.refl _ w3).alloc (Nat.le_refl _) _
  have hxWB : Box WB w3.heap.size 47 [.int .i64 k2, .int .i64 j2, .string (strB z2), .slice p2 m2 g2, .int .i64 k3, .int .i64 j3, .string (strB z3), .slice p3 m3 g3] := hWB ▸ Box.new w3 47 [.int .i64 k2, .int .i64 j2, .string (strB z2), .slice p2 m2 g2, .int .i64 k3, .int .i64 j3, .string (strB z3), .slice p3 m3 g3]
  have HXWB := Lib.hid hxWB
  have HLWB : Hid (Below w3.heap.size w3 WB) := hbWB
  have HBB : Hid (Below w.heap.size w WB) := HB3.out.trans (hbWB.mono HB3.out.size)
  have HIS : Hid (InC (fun _ => True) WB (.s [s0, s1].length 4 (tysC [s0, s1])) (.slice (some ⟨w3.heap.size, 0, none⟩) 2 2)) := hWB ▸ two_new (HV2.out.under HR3.out) HV3.out trivial
  have HAB : Hid (Below WA.heap.size WA WB) := HR2.out.trans ((HR3.out.trans (hbWB.mono HR3.out.size)).mono HR2.out.size)
  rw [hWB]
  clear hWB hbWB hxWB
  go_upto_region 6 with (first
    | (go_at_call 34; (with_reducible refine (MK3.out _ HBB.out).mono ?_); rintro e w4 ⟨v4, rfl, hv4, hb4⟩; have HV4 := Lib.hid hv4; obtain ⟨k4, j4, z4, p4, m4, g4, rfl⟩ := hv4.tys; have HR4 := Lib.hid hb4; have HB4 : Hid (Below w.heap.size w w4) := (HBB.out).trans (hb4.mono (HBB.out).size); clear hv4 hb4)
    | (go_at_call 34; (with_reducible refine (MK1.out _ HB4.out).mono ?_); rintro e w5 ⟨v5, rfl, hv5, hb5⟩; have HV5 := Lib.hid hv5; obtain ⟨k5, j5, z5, p5, m5, g5, rfl⟩ := hv5.tys; have HR5 := Lib.hid hb5; have HB5 : Hid (Below w.heap.size w w5) := (HB4.out).trans (hb5.mono (HB4.out).size); clear hv5 hb5))
  obtain ⟨WC, hWC⟩ : ∃ W, w5.alloc (.cells #[.int .i64 k4, .int .i64 j4, .string (strB z4), .slice p4 m4 g4, .int .i64 k5, .int .i64 j5, .string (strB z5), .slice p5 m5 g5] 47) = W := ⟨_, rfl⟩
  have hbWC : Below w5.heap.size w5 WC := hWC ▸ (Below.refl _ w5).alloc (Nat.le_refl _) _
  have hxWC : Box WC w5.heap.size 47 [.int .i64 k4, .int .i64 j4, .string (strB z4), .slice p4 m4 g4, .int .i64 k5, .int .i64 j5, .string (strB z5), .slice p5 m5 g5] := hWC ▸ Box.new w5 47 [.int .i64 k4, .int .i64 j4, .string (strB z4), .slice p4 m4 g4, .int .i64 k5, .int .i64 j5, .string (strB z5), .slice p5 m5 g5]
  have HXWC := Lib.hid hxWC
  have HLWC : Hid (Below w5.heap.size w5 WC) := hbWC
  have HBC : Hid (Below w.heap.size w WC) := HB5.out.trans (hbWC.mono HB5.out.size)
  have HIR : Hid (InC (fun _ => True) WC (.s [r0, s0].length 4 (tysC [r0, s0])) (.slice (some ⟨w5.heap.size, 0, none⟩) 2 2)) := hWC ▸ two_new (HV4.out.under HR5.out) HV5.out trivial
  have HBCc : Hid (Below WB.heap.size WB WC) := HR4.out.trans ((HR5.out.trans (hbWC.mono HR5.out.size)).mono HR4.out.size)
  have HAC : Hid (Below WA.heap.size WA WC) := HAB.out.trans (HBCc.out.mono HAB.out.size)
  rw [hWC]
  clear hWC hbWC hxWC
  have HVT : Hid (IsV (fun _ => True) WC (tyC t) (.agg #[.int .i64 kt, .int .i64 nt, .string (strB st), .slice at' mt ct])) := HVA.out.under HAC.out
  have HIS2 := Lib.hid (HIS.out.under HBCc.out)
  have HV2c := Lib.hid ((HV2.out.under (HR3.out.trans (HLWB.out.mono HR3.out.size))).under HBCc.out)
  have HV3c := Lib.hid ((HV3.out.under HLWB.out).under HBCc.out)
  have HBT := Lib.hid (HXWA.out.below HAC.out)
  have HBS := Lib.hid (HXWB.out.below HBCc.out)
  obtain ⟨_, _, _, _⟩ := four_cells HBT.out
  obtain ⟨_, _, _, _, _, _, _, _⟩ := eight_cells HBS.out
  have hlT := HBT.out.lt
  have hlS := HBS.out.lt
  have HSB0 : Hid (∀ W, Below WC.heap.size WC W → Calls Tryd.prog 29 #[.agg #[.int .i64 k2, .int .i64 j2, .string (strB z2), .slice p2 m2 g2], .slice (some ⟨w5.heap.size, 0, none⟩) 2 2] W fun e w' => ∃ v, e = .returned v ∧ IsV (fun _ => True) w' (tyC X0) v ∧ Below W.heap.size W w') := by
    show ∀ W, _
    intro W hW
    have := ty_Subst s0 [r0, s0] (fun _ => True) (fun _ => True) _ _ _ W (HV2c.out.under hW) (HIR.out.under hW) HMATH.out.2.1 HMATH.out.2.2.2.2.2.1
    rw [HEQ.out.2.2.2.1] at this
    refine this.mono ?_
    rintro e w' ⟨u, h1, h2, h3⟩
    exact ⟨u, h1, h2.mono fun _ _ _ => trivial, h3⟩
  have HSB1 : Hid (∀ W, Below WC.heap.size WC W → Calls Tryd.prog 29 #[.agg #[.int .i64 k3, .int .i64 j3, .string (strB z3), .slice p3 m3 g3], .slice (some ⟨w5.heap.size, 0, none⟩) 2 2] W fun e w' => ∃ v, e = .returned v ∧ IsV (fun _ => True) w' (tyC X1) v ∧ Below W.heap.size W w') := by
    show ∀ W, _
    intro W hW
    have := ty_Subst s1 [r0, s0] (fun _ => True) (fun _ => True) _ _ _ W (HV3c.out.under hW) (HIR.out.under hW) HMATH.out.2.2.1 HMATH.out.2.2.2.2.2.1
    rw [HEQ.out.2.2.2.2.1] at this
    refine this.mono ?_
    rintro e w' ⟨u, h1, h2, h3⟩
    exact ⟨u, h1, h2.mono fun _ _ _ => trivial, h3⟩
  have HDC : Hid (Below WC.heap.size WC WC.drew) := (Below.refl _ WC).drew
  clear e0 e1 e2 e3 f0 f1 f2 f3 MK0 MK1 MK2 MK3
  go_cut [12] from 44 (fun sv wx => ∃ g : Nat, sv = .slice (some ⟨g, 0, none⟩) 2 2 ∧ Hid (InC (fun _ => True) wx (.s [X0, X1].length 4 (tysC [X0, X1])) (.slice (some ⟨g, 0, none⟩) 2 2)) ∧ Hid (Below WC.heap.size WC wx))
  case first =>
    go_region_with (first
      | (go_at_call 29; (with_reducible refine (HSB0.out _ HDC.out).mono ?_); rintro e w7 ⟨v7, rfl, hv7, hb7⟩; have HV7 := Lib.hid hv7; obtain ⟨k7, j7, z7, p7, m7, g7, rfl⟩ := hv7.tys; have HB7 : Hid (Below WC.heap.size WC w7) := HDC.out.trans (hb7.mono HDC.out.size); have hbs7 := HBS.out.below HB7.out; obtain ⟨_, _, _, _, _, _, _, _⟩ := eight_cells hbs7; have hls7 := hbs7.lt; clear hv7 hb7 hbs7)
      | (go_at_call 29; (with_reducible refine (HSB1.out _ HB7.out).mono ?_); rintro e w8 ⟨v8, rfl, hv8, hb8⟩; have HV8 := Lib.hid hv8; obtain ⟨k8, j8, z8, p8, m8, g8, rfl⟩ := hv8.tys; have HB78 := Lib.hid hb8; have HB8 : Hid (Below WC.heap.size WC w8) := HB7.out.trans (hb8.mono HB7.out.size); clear hv8 hb8))
    all_goals go_wp2_with fail
    all_goals go_meet
    all_goals exact ⟨_, rfl, two_new (HV7.out.under HB78.out) HV8.out trivial, HB8.out.alloc HB8.out.size _⟩
  case rest =>
    rename World => w9
    obtain ⟨gx, rfl, HIX, HB9⟩ := hcut
    have HBT9 := Lib.hid (HBT.out.below HB9.out)
    have HVT9 := Lib.hid (HVT.out.under HB9.out)
    have HIS9 := Lib.hid (HIS2.out.under HB9.out)
    have HIR9 := Lib.hid (HIR.out.under HB9.out)
    obtain ⟨_, _, _, _⟩ := four_cells HBT9.out
    have hlT9 := HBT9.out.lt
    have C1 : Hid (∀ W, Below w9.heap.size w9 W → Calls Tryd.prog 29 #[.agg #[.int .i64 kt, .int .i64 nt, .string (strB st), .slice at' mt ct], .slice none 0 0] W fun e w' => ∃ v, e = .returned v ∧ IsV (fun _ => True) w' (tyC t) v ∧ Below W.heap.size W w') := by
      show ∀ W, _
      intro W hW
      have := ty_Subst t [] (fun _ => True) (fun _ => True) _ none 0 W (HVT9.out.under hW) (.e _ _ _) HMATH.out.1 (fun x hx => by cases hx)
      rw [HEQ.out.1] at this
      refine this.mono ?_
      rintro e w' ⟨u, h1, h2, h3⟩
      exact ⟨u, h1, h2.mono fun _ _ _ => trivial, h3⟩
    have C2 : Hid (∀ W, Below w9.heap.size w9 W → Calls Tryd.prog 29 #[.agg #[.int .i64 kt, .int .i64 nt, .string (strB st), .slice at' mt ct], .slice (some ⟨w3.heap.size, 0, none⟩) 2 2] W fun e w' => ∃ v, e = .returned v ∧ IsV (fun _ => True) w' (tyC ST) v ∧ Below W.heap.size W w') := by
      show ∀ W, _
      intro W hW
      have := ty_Subst t [s0, s1] (fun _ => True) (fun _ => True) _ _ _ W (HVT9.out.under hW) (HIS9.out.under hW) HMATH.out.1 HMATH.out.2.2.2.2.1
      rw [HEQ.out.2.2.2.2.2] at this
      refine this.mono ?_
      rintro e w' ⟨u, h1, h2, h3⟩
      exact ⟨u, h1, h2.mono fun _ _ _ => trivial, h3⟩
    have C3 : Hid (∀ W u, Below w9.heap.size w9 W → IsV (fun _ => True) W (tyC ST) u → Calls Tryd.prog 29 #[u, .slice (some ⟨w5.heap.size, 0, none⟩) 2 2] W fun e w' => ∃ v, e = .returned v ∧ IsV (fun _ => True) w' (tyC (substL [X0, X1] t)) v ∧ Below W.heap.size W w') := by
      show ∀ W u, _
      intro W u hW hu
      have := ty_Subst ST [r0, s0] (fun _ => True) (fun _ => True) u _ _ W hu (HIR9.out.under hW) HMATH.out.2.2.2.1 HMATH.out.2.2.2.2.2.1
      rw [HEQ.out.2.1] at this
      refine this.mono ?_
      rintro e w' ⟨u, h1, h2, h3⟩
      exact ⟨u, h1, h2.mono fun _ _ _ => trivial, h3⟩
    have C4 : Hid (∀ W, Below w9.heap.size w9 W → Calls Tryd.prog 29 #[.agg #[.int .i64 kt, .int .i64 nt, .string (strB st), .slice at' mt ct], .slice (some ⟨gx, 0, none⟩) 2 2] W fun e w' => ∃ v, e = .returned v ∧ IsV (fun _ => True) w' (tyC (substL [X0, X1] t)) v ∧ Below W.heap.size W w') := by
      show ∀ W, _
      intro W hW
      have := ty_Subst t [X0, X1] (fun _ => True) (fun _ => True) _ _ _ W (HVT9.out.under hW) (HIX.out.under hW) HMATH.out.1 HMATH.out.2.2.2.2.2.2.1
      refine this.mono ?_
      rintro e w' ⟨u, h1, h2, h3⟩
      exact ⟨u, h1, h2.mono fun _ _ _ => trivial, h3⟩
    have C5 : Hid (∀ W g, Below w9.heap.size w9 W → InC (fun _ => True) W (.s [vrT 0, vrT 1].length 4 (tysC [vrT 0, vrT 1])) (.slice g 2 2) → Calls Tryd.prog 29 #[.agg #[.int .i64 kt, .int .i64 nt, .string (strB st), .slice at' mt ct], .slice g 2 2] W fun e w' => ∃ v, e = .returned v ∧ IsV (fun _ => True) w' (tyC t) v ∧ Below W.heap.size W w') := by
      show ∀ W g, _
      intro W g hW hg
      have := ty_Subst t [vrT 0, vrT 1] (fun _ => True) (fun _ => True) _ g 2 W (HVT9.out.under hW) hg HMATH.out.1 HMATH.out.2.2.2.2.2.2.2
      rw [HEQ.out.2.2.1] at this
      refine this.mono ?_
      rintro e w' ⟨u, h1, h2, h3⟩
      exact ⟨u, h1, h2.mono fun _ _ _ => trivial, h3⟩
    have C6 : Hid (∀ W u, Below w9.heap.size w9 W → IsV (fun _ => True) W (tyC t) u → Calls Tryd.prog 24 #[u, .agg #[.int .i64 kt, .int .i64 nt, .string (strB st), .slice at' mt ct]] W fun e w' => e = .returned (.bool true) ∧ Below W.heap.size W w') := by
      show ∀ W u, _
      intro W u hW hu
      have := ty_Same t t _ _ _ _ W hu (HVT9.out.under hW)
      rwa [eqD_self] at this
    have C7 : Hid (∀ W u u', IsV (fun _ => True) W (tyC (substL [X0, X1] t)) u → IsV (fun _ => True) W (tyC (substL [X0, X1] t)) u' → Calls Tryd.prog 24 #[u, u'] W fun e w' => e = .returned (.bool true) ∧ Below W.heap.size W w') := by
      show ∀ W u u', _
      intro W u u' hu hu'
      have := ty_Same (substL [X0, X1] t) (substL [X0, X1] t) _ _ _ _ W hu hu'
      rwa [eqD_self] at this
    have HD9 : Hid (Below w9.heap.size w9 w9.drew) := (Below.refl _ w9).drew
    clear HMATH HEQ HIX HIS9 HIR9 HVT9 HSB0 HSB1 HBS HIS HIS2 HIR HV2c HV3c
    have HR9 : Hid (Below w9.heap.size w9 w9) := Below.refl _ w9
    have HK9 : Hid (∀ w', Below w9.heap.size w9 w' → Below w9.heap.size w9 w' ∧ w'.cell? ⟨w1.heap.size, 0, none⟩ = some (.int .i64 kt) ∧ w'.cell? ⟨w1.heap.size, 1, none⟩ = some (.int .i64 nt) ∧ w'.cell? ⟨w1.heap.size, 2, none⟩ = some (.string (strB st)) ∧ w'.cell? ⟨w1.heap.size, 3, none⟩ = some (.slice at' mt ct)) := fun w' hw' => ⟨hw', four_cells (HBT9.out.below hw')⟩
    go_upto_region 7 with fail
    go_region_held3 (fun w' => Below w9.heap.size w9 w' ∧ w'.cell? ⟨w1.heap.size, 0, none⟩ = some (.int .i64 kt) ∧ w'.cell? ⟨w1.heap.size, 1, none⟩ = some (.int .i64 nt) ∧ w'.cell? ⟨w1.heap.size, 2, none⟩ = some (.string (strB st)) ∧ w'.cell? ⟨w1.heap.size, 3, none⟩ = some (.slice at' mt ct))
      (first
        | with_reducible exact HK9.out _ HR9.out
        | with_reducible exact HK9.out _ HR9.out.drew
        | with_reducible exact HK9.out _ (below_c17 (And.left (by assumption)) hb11)
        | with_reducible exact HK9.out _ (below_c17 (And.left (by assumption)) hb12)
        | with_reducible exact HK9.out _ (below_c17 (And.left (by assumption)) hb13)
        | with_reducible exact HK9.out _ (below_c17 (And.left (by assumption)) hb14)
        | with_reducible exact HK9.out _ (below_c17 (And.left (by assumption)) hb15)
        | with_reducible exact HK9.out _ (below_c17 (And.left (by assumption)) hb16)
        | with_reducible exact HK9.out _ (below_c17 (And.left (by assumption)) hb17)
        | with_reducible exact HK9.out _ (below_c17 (And.left (by assumption)) hb18)
        | with_reducible exact HK9.out _ (below_c17 (And.left (by assumption)) hb19)
        | with_reducible exact HK9.out _ (below_c17 (And.left (by assumption)) hb20)
        | with_reducible exact HK9.out _ (below_c17 (And.left (by assumption)) hb21)
        | with_reducible exact HK9.out _ (below_a17 (And.left (by assumption)) _))
      (first
        | (go_at_call 29; (with_reducible refine (C1.out _ (And.left (by assumption))).mono ?_); rintro e v11 ⟨x11, rfl, hv11, hb11⟩; have HV11 := Lib.hid hv11; obtain ⟨k11, j11, z11, p11, m11, g11, rfl⟩ := hv11.tys; clear hv11)
        | (go_at_call 24; (with_reducible refine (C6.out _ _ (And.left (by assumption)) HV11.out).mono ?_); rintro e v12 ⟨rfl, hb12⟩)
        | (go_at_call 29; (with_reducible refine (C2.out _ (And.left (by assumption))).mono ?_); rintro e v13 ⟨x13, rfl, hv13, hb13⟩; have HV13 := Lib.hid hv13; obtain ⟨k13, j13, z13, p13, m13, g13, rfl⟩ := hv13.tys; clear hv13)
        | (go_at_call 29; (with_reducible refine (C3.out _ _ (And.left (by assumption)) HV13.out).mono ?_); rintro e v14 ⟨x14, rfl, hv14, hb14⟩; have HV14 := Lib.hid hv14; obtain ⟨k14, j14, z14, p14, m14, g14, rfl⟩ := hv14.tys; clear hv14)
        | (go_at_call 29; (with_reducible refine (C4.out _ (And.left (by assumption))).mono ?_); rintro e v15 ⟨x15, rfl, hv15, hb15⟩; have HV15 := Lib.hid hv15; have HV14b := Lib.hid (HV14.out.under hb15); obtain ⟨k15, j15, z15, p15, m15, g15, rfl⟩ := hv15.tys; clear hv15)
        | (go_at_call 24; (with_reducible refine (C7.out _ _ _ HV14b.out HV15.out).mono ?_); rintro e v16 ⟨rfl, hb16⟩)
        | (go_at_call 35; (with_reducible refine (r_Var 0 _).mono ?_); rintro e v17 ⟨rfl, hb17⟩)
        | (go_at_call 35; (with_reducible refine (r_Var 1 _).mono ?_); rintro e v18 ⟨rfl, hb18⟩; have HI18 := Lib.hid (two_new (S := fun _ => True) (vr_isV _ v18 0) (vr_isV _ v18 1) trivial))
        | (go_at_call 29; (with_reducible refine (C5.out _ _ (And.left (by assumption)) HI18.out).mono ?_); rintro e v19 ⟨x19, rfl, hv19, hb19⟩; have HV19 := Lib.hid hv19; obtain ⟨k19, j19, z19, p19, m19, g19, rfl⟩ := hv19.tys; clear hv19)
        | (go_at_call 24; (with_reducible refine (C6.out _ _ (And.left (by assumption)) HV19.out).mono ?_); rintro e v20 ⟨rfl, hb20⟩)
        | (go_at_call 19; (with_reducible refine (awake_law _).mono ?_); rintro e v21 ⟨rfl, hb21⟩))
    all_goals (have HB21 : Hid (Below w9.heap.size w9 v21) := Lib.hid (And.left (by assumption)))
    all_goals go_wp2_with fail
    all_goals go_ret
    all_goals exact ⟨rfl, (HBC.out.trans (HB9.out.mono HBC.out.size)).trans (HB21.out.mono (HBC.out.trans (HB9.out.mono HBC.out.size)).size)⟩

theorem subst_law (a0 a1 a2 a3 : Option Addr) (N0 N1 N2 N3 c0 c1 c2 c3 : Nat) (n0 n1 n2 n3 : List Nat) (w : World) (y0 : BY w a0 n0) (y1 : BY w a1 n1) (y2 : BY w a2 n2) (y3 : BY w a3 n3)
    (l0 : n0.length = N0) (l1 : n1.length = N1) (l2 : n2.length = N2) (l3 : n3.length = N3)
    (d0 : N0 ≤ c0) (d1 : N1 ≤ c1) (d2 : N2 ≤ c2) (d3 : N3 ≤ c3) (m0 : c0 ≤ maxLen) (m1 : c1 ≤ maxLen) (m2 : c2 ≤ maxLen) (m3 : c3 ≤ maxLen) :
    Calls Tryd.prog 7 #[.slice a0 N0 c0, .slice a1 N1 c1, .slice a2 N2 c2, .slice a3 N3 c3] w fun e w' => e = .returned (.bool true) ∧ Below w.heap.size w w' := by
  by_cases h : 16 < N0 ∨ 8 < N1 ∨ 8 < N2 ∨ 8 < N3
  · exact subst_awake a0 a1 a2 a3 N0 N1 N2 N3 c0 c1 c2 c3 w h
  · exact subst_main a0 a1 a2 a3 N0 N1 N2 N3 c0 c1 c2 c3 n0 n1 n2 n3 w y0 y1 y2 y3 l0 l1 l2 l3 (by omega) (by omega) (by omega) (by omega) d0 d1 d2 d3 m0 m1 m2 m3

end Go.Proofs.YtpfcpeljfgmjgaaDoor
