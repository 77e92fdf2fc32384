/- The walk of the law CufSteps: it returns true and changes nothing that was there. -/
import Derived.Test.YtigcddafiaadiaaClwords
namespace Go.Proofs.Ytigcddafiaadiaa
open Go.RowKit
set_option linter.unusedVariables false
set_option linter.unusedSimpArgs false

/-- Three tasks in memory. -/
def Three (w2 : World) (n : Nat) (pr : List Int) (up0 : List Nat) (s16 : Value) (wx : World) : Prop :=
  ∃ (lb : Nat) (t0 t1 t2 : Tk), s16 = .slice (some ⟨lb, 0, none⟩) 3 3 ∧ w2.heap.size ≤ lb ∧ Box wx lb 27 (t0.cells ++ t1.cells ++ t2.cells) ∧ (Inv n pr up0 t0 ∧ Inv n pr up0 t1 ∧ Inv n pr up0 t2) ∧ (t0.res ≤ n ∧ t1.res ≤ n ∧ t2.res ≤ n) ∧ Below w2.heap.size w2 wx

set_option maxRecDepth 100000 in
set_option maxHeartbeats 8000000 in
theorem steps_main (a1 a2 a3 a4 a5 a6 : Option Addr) (l1 l2 l3 l4 l5 l6 c1 c2 c3 c4 c5 c6 : Nat) (x1 x2 x3 x4 x5 x6 : List Nat) (w : World)
    (H1 : Hid (RowY 0 w.heap.size w a1 l1 x1)) (H2 : Hid (RowY 0 w.heap.size w a2 l2 x2)) (H3 : Hid (RowY 0 w.heap.size w a3 l3 x3)) (H4 : Hid (RowY 0 w.heap.size w a4 l4 x4)) (H5 : Hid (RowY 0 w.heap.size w a5 l5 x5)) (H6 : Hid (RowY 0 w.heap.size w a6 l6 x6))
    (B1 : Hid (∀ i, i < l1 → x1.getD i 0 ≤ 255)) (B2 : Hid (∀ i, i < l2 → x2.getD i 0 ≤ 255)) (B3 : Hid (∀ i, i < l3 → x3.getD i 0 ≤ 255)) (B4 : Hid (∀ i, i < l4 → x4.getD i 0 ≤ 255)) (B5 : Hid (∀ i, i < l5 → x5.getD i 0 ≤ 255)) (B6 : Hid (∀ i, i < l6 → x6.getD i 0 ≤ 255)) (m2 : l2 ≤ 9223372036854775807)
    (g1 : ¬ 60 < l1) (g2 : ¬ l3 < 3) (g3 : ¬ l4 < 3) (g4 : ¬ l5 < 3) (g5 : ¬ 100 < l6) :
    Calls Try.prog 4 #[.slice a1 l1 c1, .slice a2 l2 c2, .slice a3 l3 c3, .slice a4 l4 c4, .slice a5 l5 c5, .slice a6 l6 c6] w fun e w' => e = .returned (.bool true) ∧ Below w.heap.size w w' := by
  obtain ⟨n, hn⟩ : ∃ n : Nat, (1 : Int) + (l2 : Int) % 16 = (n : Int) := ⟨1 + l2 % 16, by omega⟩
  have hn0 : 0 < n := by omega
  have hn1 : n ≤ 16 := by omega
  obtain ⟨p3, o3, rfl, hp3, k3⟩ := three_bytes H3.out (by omega)
  obtain ⟨p4, o4, rfl, hp4, k4⟩ := three_bytes H4.out (by omega)
  obtain ⟨p5, o5, rfl, hp5, k5⟩ := three_bytes H5.out (by omega)
  have HK3 := Lib.hid k3
  have HK4 := Lib.hid k4
  have HK5 := Lib.hid k5
  clear k3 k4 k5
  go_enter Try.func4, Try.ntmps4
  go_wp2_with fail
  clear hn
  refine (prio_any a2 l2 c2 x2 n _ H2.out B2.out (Nat.le_refl _) m2 (by omega)).mono ?_
  rintro e w1 ⟨gp, pr, rfl, hgp, hrp, hb1⟩
  have s1 := hb1.size
  go_wp2_with fail
  refine (cells_any a1 (some ⟨gp, 0, none⟩) l1 c1 n n x1 pr _ (H1.out.below hb1 (Nat.le_refl _)) B1.out s1 (by omega) hrp (Nat.le_refl _) hn0 (by omega)).mono ?_
  rintro e w2 ⟨a7, c7, up0, rfl, hr2, hF2, hb2⟩
  have s2 := hb2.size
  have HB2 : Hid (Below w.heap.size w w2) := hb1.trans (hb2.mono s1)
  have HRP : Hid (Row w.heap.size w1.heap.size w2 (some ⟨gp, 0, none⟩) n pr) := hrp.below hb2 (Nat.le_refl _)
  have HR2 := Lib.hid hr2
  have sw2 := HB2.out.size
  clear hb1 hb2 hrp hr2
  have dz0 := (HB2.out.cell (p := ⟨p3, o3, none⟩) hp3).trans (HK3.out 0 (by omega))
  have ez0 := B3.out 0 (by omega)
  generalize x3.getD 0 0 = z0 at dz0 ez0
  have dz1 := (HB2.out.cell (p := ⟨p3, o3 + 1, none⟩) hp3).trans (HK3.out 1 (by omega))
  have ez1 := B3.out 1 (by omega)
  generalize x3.getD 1 0 = z1 at dz1 ez1
  have dz2 := (HB2.out.cell (p := ⟨p3, o3 + 2, none⟩) hp3).trans (HK3.out 2 (by omega))
  have ez2 := B3.out 2 (by omega)
  generalize x3.getD 2 0 = z2 at dz2 ez2
  have dz3 := (HB2.out.cell (p := ⟨p4, o4, none⟩) hp4).trans (HK4.out 0 (by omega))
  have ez3 := B4.out 0 (by omega)
  generalize x4.getD 0 0 = z3 at dz3 ez3
  have dz4 := (HB2.out.cell (p := ⟨p4, o4 + 1, none⟩) hp4).trans (HK4.out 1 (by omega))
  have ez4 := B4.out 1 (by omega)
  generalize x4.getD 1 0 = z4 at dz4 ez4
  have dz5 := (HB2.out.cell (p := ⟨p4, o4 + 2, none⟩) hp4).trans (HK4.out 2 (by omega))
  have ez5 := B4.out 2 (by omega)
  generalize x4.getD 2 0 = z5 at dz5 ez5
  have dz6 := (HB2.out.cell (p := ⟨p5, o5, none⟩) hp5).trans (HK5.out 0 (by omega))
  have ez6 := B5.out 0 (by omega)
  generalize x5.getD 0 0 = z6 at dz6 ez6
  have dz7 := (HB2.out.cell (p := ⟨p5, o5 + 1, none⟩) hp5).trans (HK5.out 1 (by omega))
  have ez7 := B5.out 1 (by omega)
  generalize x5.getD 1 0 = z7 at dz7 ez7
  have dz8 := (HB2.out.cell (p := ⟨p5, o5 + 2, none⟩) hp5).trans (HK5.out 2 (by omega))
  have ez8 := B5.out 2 (by omega)
  generalize x5.getD 2 0 = z8 at dz8 ez8
  obtain ⟨K0, hK0⟩ : ∃ A : Nat, 1 + z0 % 3 = A := ⟨_, rfl⟩
  obtain ⟨X0, hX0⟩ : ∃ A : Nat, z1 % n = A := ⟨_, rfl⟩
  obtain ⟨Y0, hY0⟩ : ∃ A : Nat, z2 % n = A := ⟨_, rfl⟩
  have HO0 : Hid (okO n (K0, X0, Y0)) := by
    have := Nat.mod_lt z1 hn0
    have := Nat.mod_lt z2 hn0
    exact ⟨by show 1 ≤ K0; omega, by show K0 ≤ 3; omega, by show X0 < n; omega, by show Y0 < n; omega⟩
  have HP0 : Hid (∀ w', Calls Try.prog 17 #[.int .u8 (z0 : Int), .int .u8 (z1 : Int), .int .u8 (z2 : Int), .int .i64 (n : Int)] w' fun e w'' => e = .returned (.agg #[.int .i64 (K0 : Int), .int .i64 (X0 : Int), .int .i64 (Y0 : Int)]) ∧ Below w'.heap.size w' w'') := fun w' => op_v z0 z1 z2 n K0 X0 Y0 w' hn0 (by omega) ez0 ez1 ez2 hK0 hX0 hY0
  have HG0 := Lib.hid (fun w' => rbegin_t n K0 X0 Y0 w' HO0.out)
  have hf0 := fun W : World => field_t (K0 : Int) (X0 : Int) (Y0 : Int) 1 (X0 : Int) (Y0 : Int) 0 0 false 0 true W
  clear hK0 hX0 hY0 ez0 ez1 ez2
  obtain ⟨K1, hK1⟩ : ∃ A : Nat, 1 + z3 % 3 = A := ⟨_, rfl⟩
  obtain ⟨X1, hX1⟩ : ∃ A : Nat, z4 % n = A := ⟨_, rfl⟩
  obtain ⟨Y1, hY1⟩ : ∃ A : Nat, z5 % n = A := ⟨_, rfl⟩
  have HO1 : Hid (okO n (K1, X1, Y1)) := by
    have := Nat.mod_lt z4 hn0
    have := Nat.mod_lt z5 hn0
    exact ⟨by show 1 ≤ K1; omega, by show K1 ≤ 3; omega, by show X1 < n; omega, by show Y1 < n; omega⟩
  have HP1 : Hid (∀ w', Calls Try.prog 17 #[.int .u8 (z3 : Int), .int .u8 (z4 : Int), .int .u8 (z5 : Int), .int .i64 (n : Int)] w' fun e w'' => e = .returned (.agg #[.int .i64 (K1 : Int), .int .i64 (X1 : Int), .int .i64 (Y1 : Int)]) ∧ Below w'.heap.size w' w'') := fun w' => op_v z3 z4 z5 n K1 X1 Y1 w' hn0 (by omega) ez3 ez4 ez5 hK1 hX1 hY1
  have HG1 := Lib.hid (fun w' => rbegin_t n K1 X1 Y1 w' HO1.out)
  have hf1 := fun W : World => field_t (K1 : Int) (X1 : Int) (Y1 : Int) 1 (X1 : Int) (Y1 : Int) 0 0 false 0 true W
  clear hK1 hX1 hY1 ez3 ez4 ez5
  obtain ⟨K2, hK2⟩ : ∃ A : Nat, 1 + z6 % 3 = A := ⟨_, rfl⟩
  obtain ⟨X2, hX2⟩ : ∃ A : Nat, z7 % n = A := ⟨_, rfl⟩
  obtain ⟨Y2, hY2⟩ : ∃ A : Nat, z8 % n = A := ⟨_, rfl⟩
  have HO2 : Hid (okO n (K2, X2, Y2)) := by
    have := Nat.mod_lt z7 hn0
    have := Nat.mod_lt z8 hn0
    exact ⟨by show 1 ≤ K2; omega, by show K2 ≤ 3; omega, by show X2 < n; omega, by show Y2 < n; omega⟩
  have HP2 : Hid (∀ w', Calls Try.prog 17 #[.int .u8 (z6 : Int), .int .u8 (z7 : Int), .int .u8 (z8 : Int), .int .i64 (n : Int)] w' fun e w'' => e = .returned (.agg #[.int .i64 (K2 : Int), .int .i64 (X2 : Int), .int .i64 (Y2 : Int)]) ∧ Below w'.heap.size w' w'') := fun w' => op_v z6 z7 z8 n K2 X2 Y2 w' hn0 (by omega) ez6 ez7 ez8 hK2 hX2 hY2
  have HG2 := Lib.hid (fun w' => rbegin_t n K2 X2 Y2 w' HO2.out)
  have hf2 := fun W : World => field_t (K2 : Int) (X2 : Int) (Y2 : Int) 1 (X2 : Int) (Y2 : Int) 0 0 false 0 true W
  clear hK2 hX2 hY2 ez6 ez7 ez8
  have HK : Hid (∀ w', Below w2.heap.size w2 w' → (Below w2.heap.size w2 w' ∧ w'.cell? ⟨p3, o3, none⟩ = some (.int .u8 (z0 : Int)) ∧ w'.cell? ⟨p3, o3 + 1, none⟩ = some (.int .u8 (z1 : Int)) ∧ w'.cell? ⟨p3, o3 + 2, none⟩ = some (.int .u8 (z2 : Int)) ∧ w'.cell? ⟨p4, o4, none⟩ = some (.int .u8 (z3 : Int)) ∧ w'.cell? ⟨p4, o4 + 1, none⟩ = some (.int .u8 (z4 : Int)) ∧ w'.cell? ⟨p4, o4 + 2, none⟩ = some (.int .u8 (z5 : Int)) ∧ w'.cell? ⟨p5, o5, none⟩ = some (.int .u8 (z6 : Int)) ∧ w'.cell? ⟨p5, o5 + 1, none⟩ = some (.int .u8 (z7 : Int)) ∧ w'.cell? ⟨p5, o5 + 2, none⟩ = some (.int .u8 (z8 : Int)))) := fun w' h => ⟨h, (h.cell (p := ⟨p3, o3, none⟩) (Nat.lt_of_lt_of_le hp3 sw2)).trans dz0, (h.cell (p := ⟨p3, o3 + 1, none⟩) (Nat.lt_of_lt_of_le hp3 sw2)).trans dz1, (h.cell (p := ⟨p3, o3 + 2, none⟩) (Nat.lt_of_lt_of_le hp3 sw2)).trans dz2, (h.cell (p := ⟨p4, o4, none⟩) (Nat.lt_of_lt_of_le hp4 sw2)).trans dz3, (h.cell (p := ⟨p4, o4 + 1, none⟩) (Nat.lt_of_lt_of_le hp4 sw2)).trans dz4, (h.cell (p := ⟨p4, o4 + 2, none⟩) (Nat.lt_of_lt_of_le hp4 sw2)).trans dz5, (h.cell (p := ⟨p5, o5, none⟩) (Nat.lt_of_lt_of_le hp5 sw2)).trans dz6, (h.cell (p := ⟨p5, o5 + 1, none⟩) (Nat.lt_of_lt_of_le hp5 sw2)).trans dz7, (h.cell (p := ⟨p5, o5 + 2, none⟩) (Nat.lt_of_lt_of_le hp5 sw2)).trans dz8⟩
  clear dz0
  clear dz1
  clear dz2
  clear dz3
  clear dz4
  clear dz5
  clear dz6
  clear dz7
  clear dz8
  have q30 : (0 : Int) < (l3 : Int) := by omega
  have q31 : (1 : Int) < (l3 : Int) := by omega
  have q32 : (2 : Int) < (l3 : Int) := by omega
  have q40 : (0 : Int) < (l4 : Int) := by omega
  have q41 : (1 : Int) < (l4 : Int) := by omega
  have q42 : (2 : Int) < (l4 : Int) := by omega
  have q50 : (0 : Int) < (l5 : Int) := by omega
  have q51 : (1 : Int) < (l5 : Int) := by omega
  have q52 : (2 : Int) < (l5 : Int) := by omega
  have r3 : 0 < l3 := by omega
  have r4 : 0 < l4 := by omega
  have r5 : 0 < l5 := by omega
  go_upto_region 6 with fail
  go_cut [16] from 23 to 162 (fun s16 wx => Three w2 n pr up0 s16 wx)
  case first =>
    go_region_held3 (fun w' => Below w2.heap.size w2 w' ∧ w'.cell? ⟨p3, o3, none⟩ = some (.int .u8 (z0 : Int)) ∧ w'.cell? ⟨p3, o3 + 1, none⟩ = some (.int .u8 (z1 : Int)) ∧ w'.cell? ⟨p3, o3 + 2, none⟩ = some (.int .u8 (z2 : Int)) ∧ w'.cell? ⟨p4, o4, none⟩ = some (.int .u8 (z3 : Int)) ∧ w'.cell? ⟨p4, o4 + 1, none⟩ = some (.int .u8 (z4 : Int)) ∧ w'.cell? ⟨p4, o4 + 2, none⟩ = some (.int .u8 (z5 : Int)) ∧ w'.cell? ⟨p5, o5, none⟩ = some (.int .u8 (z6 : Int)) ∧ w'.cell? ⟨p5, o5 + 1, none⟩ = some (.int .u8 (z7 : Int)) ∧ w'.cell? ⟨p5, o5 + 2, none⟩ = some (.int .u8 (z8 : Int)))
      (first
        | exact HK.out _ (Below.refl _ _).drew
        | exact HK.out _ (below_next (Below.refl _ _).drew hbz (Nat.le_refl _))
        | exact HK.out _ (below_next (And.left (by assumption)) hbz (Nat.le_refl _))
        | exact HK.out _ (below_alloc (And.left (by assumption)) (Nat.le_refl _) _))
      (first
        | (go_at_call 17; (with_reducible refine (HP0.out _).mono ?_); rintro e wz ⟨rfl, hbz⟩; have kz : w2.heap.size ≤ wz.heap.size := Nat.le_trans (by first | exact Nat.le_refl _ | assumption) hbz.size)
        | (go_at_call 10; (with_reducible refine (HG0.out _).mono ?_); rintro e wz ⟨rfl, hbz⟩; have kz : w2.heap.size ≤ wz.heap.size := Nat.le_trans (by first | exact Nat.le_refl _ | assumption) hbz.size)
        | (go_at_call 17; (with_reducible refine (HP1.out _).mono ?_); rintro e wz ⟨rfl, hbz⟩; have kz : w2.heap.size ≤ wz.heap.size := Nat.le_trans (by first | exact Nat.le_refl _ | assumption) hbz.size)
        | (go_at_call 10; (with_reducible refine (HG1.out _).mono ?_); rintro e wz ⟨rfl, hbz⟩; have kz : w2.heap.size ≤ wz.heap.size := Nat.le_trans (by first | exact Nat.le_refl _ | assumption) hbz.size)
        | (go_at_call 17; (with_reducible refine (HP2.out _).mono ?_); rintro e wz ⟨rfl, hbz⟩; have kz : w2.heap.size ≤ wz.heap.size := Nat.le_trans (by first | exact Nat.le_refl _ | assumption) hbz.size)
        | (go_at_call 10; (with_reducible refine (HG2.out _).mono ?_); rintro e wz ⟨rfl, hbz⟩; have kz : w2.heap.size ≤ wz.heap.size := Nat.le_trans (by first | exact Nat.le_refl _ | assumption) hbz.size)
        | fail)
    have hbe : Below w2.heap.size w2 (wz.alloc (.cells #[.int .i64 (K0 : Int), .int .i64 (X0 : Int), .int .i64 (Y0 : Int), .int .i64 1, .int .i64 (X0 : Int), .int .i64 (Y0 : Int), .int .i64 0, .int .i64 0, .bool false, .int .i64 0, .int .i64 (K1 : Int), .int .i64 (X1 : Int), .int .i64 (Y1 : Int), .int .i64 1, .int .i64 (X1 : Int), .int .i64 (Y1 : Int), .int .i64 0, .int .i64 0, .bool false, .int .i64 0, .int .i64 (K2 : Int), .int .i64 (X2 : Int), .int .i64 (Y2 : Int), .int .i64 1, .int .i64 (X2 : Int), .int .i64 (Y2 : Int), .int .i64 0, .int .i64 0, .bool false, .int .i64 0] 27)) := And.left (by assumption)
    have hsz := kz
    go_wp2_with fail
    go_meet
    refine ⟨wz.heap.size, Tk.mk K0 X0 Y0 1 X0 Y0 0 0 false 0, Tk.mk K1 X1 Y1 1 X1 Y1 0 0 false 0, Tk.mk K2 X2 Y2 1 X2 Y2 0 0 false 0, rfl, hsz, Box.new wz _ _, ⟨?_, ?_, ?_⟩, ⟨Nat.zero_le _, Nat.zero_le _, Nat.zero_le _⟩, hbe⟩
    · exact inv_new HO0.out.1 HO0.out.2.1 HO0.out.2.2.1 HO0.out.2.2.2
    · exact inv_new HO1.out.1 HO1.out.2.1 HO1.out.2.2.1 HO1.out.2.2.2
    · exact inv_new HO2.out.1 HO2.out.2.1 HO2.out.2.2.1 HO2.out.2.2.2
  case rest =>
    clear HK HP0 HP1 HP2 HG0 HG1 HG2 HO0 HO1 HO2 hf0 hf1 hf2 HK3 HK4 HK5 H1 H2 H3 H4 H5 B1 B2 B3 B4 B5 q30 q31 q32 q40 q41 q42 q50 q51 q52 r3 r4 r5
    obtain ⟨lb, t0, t1, t2, rfl, hlb, BL, hI, hres, hbc⟩ := hcut
    have sc := hbc.size
    have hlc := BL.lt
    have HR3 := Lib.hid (HR2.out.below hbc (Nat.le_refl _))
    have HI0 := Lib.hid (And.intro hI hres)
    have HBL := Lib.hid BL
    have HBC := Lib.hid hbc
    obtain ⟨i0, hi0, hz0, hz1, hz2⟩ := info_parts Try.info3
    clear HR2 hI hres BL hbc
    go_wp2_with fail
    go_loopw [15, 17] (fun uv iv wr => ∃ (i : Nat) (a' : Option Addr) (c : Nat) (up : List Nat) (t0 t1 t2 : Tk), i ≤ l6 ∧ iv = .int .i64 (i : Int) ∧ uv = .slice a' n c ∧ Hid (∃ lo hi, RowN lo hi wr a' n up ∧ w.heap.size ≤ lo ∧ hi ≤ wr.heap.size ∧ (lb < lo ∨ hi ≤ lb)) ∧ Hid (For n pr up) ∧ Hid ((Inv n pr up t0 ∧ Inv n pr up t1 ∧ Inv n pr up t2) ∧ (t0.res ≤ n ∧ t1.res ≤ n ∧ t2.res ≤ n)) ∧ Hid (Box wr lb 27 (t0.cells ++ t1.cells ++ t2.cells)) ∧ Below w2.heap.size w2 wr) (fun _ iv _ => l6 - (intOf iv).toNat)
    case atStart => exact ⟨0, a7, c7, up0, t0, t1, t2, Nat.zero_le _, rfl, rfl, ⟨_, _, HR3.out, by omega, sc, .inr hlb⟩, hF2, HI0, HBL, HBC.out⟩
    case round =>
      clear HR3 HI0 HBL hF2 HBC hlc sc
      obtain ⟨i, a', c, up, t0, t1, t2, hi, rfl, rfl, hr, hF, hI, hL, hb⟩ := hrel
      have sr := hb.size
      by_cases hlt : i < l6
      · obtain ⟨p6, o6, rfl, _, hp6, hc6⟩ := H6.out.2.resolve_left (by omega)
        have ct := ((HB2.out.trans (hb.mono sw2)).cell (p := ⟨p6, o6 + i, none⟩) hp6).trans (hc6 i hlt)
        have HRPr := Lib.hid (HRP.out.below hb (by omega))
        have hyb := B6.out i hlt
        generalize x6.getD i 0 = y at *
        have hl5 := hL.out.lt
        have hp6w : p6 < wr.heap.size := by omega
        have hi0' : (0 : Int) ≤ i := by omega
        have hi1' : (i : Int) < l6 := by omega
        obtain ⟨l5, h5, hr5, hl5', hh5, hap⟩ := hr.out
        obtain ⟨bu, ou, rfl, _, hbu, _⟩ := hr5.at_ hn0
        have HRU := Lib.hid hr5
        have HB := Lib.hid hb
        clear hc6 hb hr5
        have hy3 : y % 3 = 0 ∨ y % 3 = 1 ∨ y % 3 = 2 := by omega
        rcases hy3 with hy3 | hy3 | hy3
        · have hy : (y : Int) % 3 = 0 := by omega
          obtain ⟨T, hT⟩ : ∃ T, tks up pr t0 = T := ⟨_, rfl⟩
          obtain ⟨U, hU⟩ : ∃ U, ups up pr t0 = U := ⟨_, rfl⟩
          have ok := step_ok hF.out hI.out.1.1
          rw [hT, hU] at ok
          have HRS : Hid (T.res ≤ n) := by have := res_le hI.out.1.1 hI.out.2.1; rwa [hT] at this
          have HTE := Lib.hid hT
          have HUE := Lib.hid hU
          have HOK := Lib.hid ok
          clear hT hU ok hy3
          go_wp2_with (at_builtin; refine wpList_append_own _ rfl _ _ 22 rfl wr.heap.size 3 i0 (.int .i64 0) 1 8 Try.underlying22 hi0 hz0 hz1 hz2 rfl (by decide) (.slice (some ⟨wr.heap.size, 0, none⟩) 0 0) 0 [] rfl ?c0 ⟨bu, ou, none⟩ n c (intsOf up) rfl ?c1 ?c2 ?c3 ?c4 ?c5 ?c6 ?_)
          case c0 => exact World.ownsRow_made wr #[] 0 (Nat.le_refl _) (by decide) rfl
          case c1 => simp [intsOf, HRU.out.1]
          case c2 => have hn7 := (HRU.out.alloc hh5 (.cells #[] 3)).news; intro j u h; have h8 := hn7 j u h; rwa [Addr.add_lit] at h8
          case c3 => intro u hu; simp [intsOf] at hu; obtain ⟨n, _, rfl⟩ := hu; rfl
          case c4 => unfold maxLen; omega
          case c5 => omega
          intro v7 w4 hown hgr hnn
          have hb4 : Below wr.heap.size wr w4 := ((Below.refl _ _).alloc (Nat.le_refl _) _).grown hgr (by simp) (by rintro k hk; cases hk; exact Nat.le_refl _)
          obtain ⟨g4, c4, rfl, hg4, ho4⟩ := own_of_owns (p := up) (n := n) (by simpa using hown) HRU.out.1 hn0
          have s4 := hb4.size
          have HB4 := Lib.hid hb4
          have HO4 := Lib.hid ho4
          have hL4 := hL.out.below hb4
          clear hgr hnn hown hb4 ho4
          have d0 : w4.cell? ⟨lb, 0, none⟩ = some (.int .i64 (t0.k : Int)) := hL4.cell 0
          have d1 : w4.cell? ⟨lb, 1, none⟩ = some (.int .i64 (t0.x : Int)) := hL4.cell 1
          have d2 : w4.cell? ⟨lb, 2, none⟩ = some (.int .i64 (t0.y : Int)) := hL4.cell 2
          have d3 : w4.cell? ⟨lb, 3, none⟩ = some (.int .i64 (t0.st : Int)) := hL4.cell 3
          have d4 : w4.cell? ⟨lb, 4, none⟩ = some (.int .i64 (t0.u : Int)) := hL4.cell 4
          have d5 : w4.cell? ⟨lb, 5, none⟩ = some (.int .i64 (t0.v : Int)) := hL4.cell 5
          have d6 : w4.cell? ⟨lb, 6, none⟩ = some (.int .i64 (t0.w : Int)) := hL4.cell 6
          have d7 : w4.cell? ⟨lb, 7, none⟩ = some (.int .i64 (t0.r : Int)) := hL4.cell 7
          have d8 : w4.cell? ⟨lb, 8, none⟩ = some (.bool t0.dn) := hL4.cell 8
          have d9 : w4.cell? ⟨lb, 9, none⟩ = some (.int .i64 (t0.res : Int)) := hL4.cell 9
          clear hL4
          go_wp2_with fail
          refine (step_t (some ⟨bu, ou, none⟩) (some ⟨gp, 0, none⟩) n c n pr up t0 _ hI.out.1.1 (HRU.out.below HB4.out hh5) (by omega) (HRPr.out.below HB4.out (by omega)) (by omega) (by omega) T HTE.out U HUE.out).mono ?_
          rintro e w5 ⟨g5, c5, rfl, hg5, ho5, hb5⟩
          have s5 := hb5.size
          have HB5 : Hid (Below wr.heap.size wr w5) := HB4.out.trans (hb5.mono s4)
          have HO5 := Lib.hid ho5
          have HO45 := Lib.hid (HO4.out.below hb5 HO4.out.1)
          have hL5 := hL.out.below HB5.out
          clear hb5 ho5 d0 d1 d2 d3 d4 d5 d6 d7 d8 d9
          have d0 : w5.cell? ⟨lb, 0, none⟩ = some (.int .i64 (t0.k : Int)) := hL5.cell 0
          have d1 : w5.cell? ⟨lb, 1, none⟩ = some (.int .i64 (t0.x : Int)) := hL5.cell 1
          have d2 : w5.cell? ⟨lb, 2, none⟩ = some (.int .i64 (t0.y : Int)) := hL5.cell 2
          have d3 : w5.cell? ⟨lb, 3, none⟩ = some (.int .i64 (t0.st : Int)) := hL5.cell 3
          have d4 : w5.cell? ⟨lb, 4, none⟩ = some (.int .i64 (t0.u : Int)) := hL5.cell 4
          have d5 : w5.cell? ⟨lb, 5, none⟩ = some (.int .i64 (t0.v : Int)) := hL5.cell 5
          have d6 : w5.cell? ⟨lb, 6, none⟩ = some (.int .i64 (t0.w : Int)) := hL5.cell 6
          have d7 : w5.cell? ⟨lb, 7, none⟩ = some (.int .i64 (t0.r : Int)) := hL5.cell 7
          have d8 : w5.cell? ⟨lb, 8, none⟩ = some (.bool t0.dn) := hL5.cell 8
          have d9 : w5.cell? ⟨lb, 9, none⟩ = some (.int .i64 (t0.res : Int)) := hL5.cell 9
          clear hL5
          have hlb5 : lb < w5.heap.size := by omega
          go_wp2_with fail
          have s5a : (w5.alloc (.cells #[.int .i64 (T.k : Int), .int .i64 (T.x : Int), .int .i64 (T.y : Int), .int .i64 (T.st : Int), .int .i64 (T.u : Int), .int .i64 (T.v : Int), .int .i64 (T.w : Int), .int .i64 (T.r : Int), .bool T.dn, .int .i64 (T.res : Int)] 27)).heap.size = w5.heap.size + 1 := by simp
          have BT := Box.new w5 27 [.int .i64 (T.k : Int), .int .i64 (T.x : Int), .int .i64 (T.y : Int), .int .i64 (T.st : Int), .int .i64 (T.u : Int), .int .i64 (T.v : Int), .int .i64 (T.w : Int), .int .i64 (T.r : Int), .bool T.dn, .int .i64 (T.res : Int)]
          have HBT := Lib.hid BT
          have HRU5 := Lib.hid ((HRU.out.below HB5.out hh5).alloc (by omega) (.cells #[.int .i64 (T.k : Int), .int .i64 (T.x : Int), .int .i64 (T.y : Int), .int .i64 (T.st : Int), .int .i64 (T.u : Int), .int .i64 (T.v : Int), .int .i64 (T.w : Int), .int .i64 (T.r : Int), .bool T.dn, .int .i64 (T.res : Int)] 27))
          have HRP5 := Lib.hid ((HRPr.out.below HB5.out (by omega)).alloc (by omega) (.cells #[.int .i64 (T.k : Int), .int .i64 (T.x : Int), .int .i64 (T.y : Int), .int .i64 (T.st : Int), .int .i64 (T.u : Int), .int .i64 (T.v : Int), .int .i64 (T.w : Int), .int .i64 (T.r : Int), .bool T.dn, .int .i64 (T.res : Int)] 27))
          have HO5a := Lib.hid (HO5.out.alloc (.cells #[.int .i64 (T.k : Int), .int .i64 (T.x : Int), .int .i64 (T.y : Int), .int .i64 (T.st : Int), .int .i64 (T.u : Int), .int .i64 (T.v : Int), .int .i64 (T.w : Int), .int .i64 (T.r : Int), .bool T.dn, .int .i64 (T.res : Int)] 27))
          have HO4a := Lib.hid (HO45.out.alloc (.cells #[.int .i64 (T.k : Int), .int .i64 (T.x : Int), .int .i64 (T.y : Int), .int .i64 (T.st : Int), .int .i64 (T.u : Int), .int .i64 (T.v : Int), .int .i64 (T.w : Int), .int .i64 (T.r : Int), .bool T.dn, .int .i64 (T.res : Int)] 27))
          have HL5a := Lib.hid ((hL.out.below HB5.out).alloc (.cells #[.int .i64 (T.k : Int), .int .i64 (T.x : Int), .int .i64 (T.y : Int), .int .i64 (T.st : Int), .int .i64 (T.u : Int), .int .i64 (T.v : Int), .int .i64 (T.w : Int), .int .i64 (T.r : Int), .bool T.dn, .int .i64 (T.res : Int)] 27))
          have HB5a : Hid (Below wr.heap.size wr (w5.alloc (.cells #[.int .i64 (T.k : Int), .int .i64 (T.x : Int), .int .i64 (T.y : Int), .int .i64 (T.st : Int), .int .i64 (T.u : Int), .int .i64 (T.v : Int), .int .i64 (T.w : Int), .int .i64 (T.r : Int), .bool T.dn, .int .i64 (T.res : Int)] 27))) := HB5.out.alloc (by omega) _
          refine (rstep_t (some ⟨bu, ou, none⟩) (some ⟨gp, 0, none⟩) n c n pr up t0 _ hI.out.1.1 HRU5.out (by omega) HRP5.out (by omega) (by omega) T HTE.out U HUE.out).mono ?_
          rintro e w6 ⟨g6, c6, rfl, hg6, ho6, hb6⟩
          have s6 := hb6.size
          rw [s5a] at s6 hg6
          have BT6 := HBT.out.below hb6
          have HRU6 := HRU5.out.below hb6 (by omega)
          have HRP6 := HRP5.out.below hb6 (by omega)
          have HO56 := HO5a.out.below hb6 HO5a.out.1
          have HO46 := HO4a.out.below hb6 HO4a.out.1
          have HL6 := HL5a.out.below hb6
          have HB6 : Below wr.heap.size wr w6 := HB5a.out.trans (hb6.mono (by omega))
          clear hb6 d0 d1 d2 d3 d4 d5 d6 d7 d8 d9 BT s5a
          go_wp2_with fail
          have s7 : w6.heap.size < (w6.alloc (.cells #[.slice (some ⟨g6, 0, none⟩) n c6, .int .i64 (T.k : Int), .int .i64 (T.x : Int), .int .i64 (T.y : Int), .int .i64 (T.st : Int), .int .i64 (T.u : Int), .int .i64 (T.v : Int), .int .i64 (T.w : Int), .int .i64 (T.r : Int), .bool T.dn, .int .i64 (T.res : Int)] 44)).heap.size := by simp
          have B7 := Box.new w6 44 [.slice (some ⟨g6, 0, none⟩) n c6, .int .i64 (T.k : Int), .int .i64 (T.x : Int), .int .i64 (T.y : Int), .int .i64 (T.st : Int), .int .i64 (T.u : Int), .int .i64 (T.v : Int), .int .i64 (T.w : Int), .int .i64 (T.r : Int), .bool T.dn, .int .i64 (T.res : Int)]
          have T7 := BT6.alloc (.cells #[.slice (some ⟨g6, 0, none⟩) n c6, .int .i64 (T.k : Int), .int .i64 (T.x : Int), .int .i64 (T.y : Int), .int .i64 (T.st : Int), .int .i64 (T.u : Int), .int .i64 (T.v : Int), .int .i64 (T.w : Int), .int .i64 (T.r : Int), .bool T.dn, .int .i64 (T.res : Int)] 44)
          have RU7 := HRU6.alloc (by omega) (.cells #[.slice (some ⟨g6, 0, none⟩) n c6, .int .i64 (T.k : Int), .int .i64 (T.x : Int), .int .i64 (T.y : Int), .int .i64 (T.st : Int), .int .i64 (T.u : Int), .int .i64 (T.v : Int), .int .i64 (T.w : Int), .int .i64 (T.r : Int), .bool T.dn, .int .i64 (T.res : Int)] 44)
          have RP7 := HRP6.alloc (by omega) (.cells #[.slice (some ⟨g6, 0, none⟩) n c6, .int .i64 (T.k : Int), .int .i64 (T.x : Int), .int .i64 (T.y : Int), .int .i64 (T.st : Int), .int .i64 (T.u : Int), .int .i64 (T.v : Int), .int .i64 (T.w : Int), .int .i64 (T.r : Int), .bool T.dn, .int .i64 (T.res : Int)] 44)
          have O57 := HO56.alloc (.cells #[.slice (some ⟨g6, 0, none⟩) n c6, .int .i64 (T.k : Int), .int .i64 (T.x : Int), .int .i64 (T.y : Int), .int .i64 (T.st : Int), .int .i64 (T.u : Int), .int .i64 (T.v : Int), .int .i64 (T.w : Int), .int .i64 (T.r : Int), .bool T.dn, .int .i64 (T.res : Int)] 44)
          have O47 := HO46.alloc (.cells #[.slice (some ⟨g6, 0, none⟩) n c6, .int .i64 (T.k : Int), .int .i64 (T.x : Int), .int .i64 (T.y : Int), .int .i64 (T.st : Int), .int .i64 (T.u : Int), .int .i64 (T.v : Int), .int .i64 (T.w : Int), .int .i64 (T.r : Int), .bool T.dn, .int .i64 (T.res : Int)] 44)
          have O67 := ho6.alloc (.cells #[.slice (some ⟨g6, 0, none⟩) n c6, .int .i64 (T.k : Int), .int .i64 (T.x : Int), .int .i64 (T.y : Int), .int .i64 (T.st : Int), .int .i64 (T.u : Int), .int .i64 (T.v : Int), .int .i64 (T.w : Int), .int .i64 (T.r : Int), .bool T.dn, .int .i64 (T.res : Int)] 44)
          have L7 := HL6.alloc (.cells #[.slice (some ⟨g6, 0, none⟩) n c6, .int .i64 (T.k : Int), .int .i64 (T.x : Int), .int .i64 (T.y : Int), .int .i64 (T.st : Int), .int .i64 (T.u : Int), .int .i64 (T.v : Int), .int .i64 (T.w : Int), .int .i64 (T.r : Int), .bool T.dn, .int .i64 (T.res : Int)] 44)
          have b7 := HB6.alloc (by omega) (.cells #[.slice (some ⟨g6, 0, none⟩) n c6, .int .i64 (T.k : Int), .int .i64 (T.x : Int), .int .i64 (T.y : Int), .int .i64 (T.st : Int), .int .i64 (T.u : Int), .int .i64 (T.v : Int), .int .i64 (T.w : Int), .int .i64 (T.r : Int), .bool T.dn, .int .i64 (T.res : Int)] 44)
          simp only [List.toArray] at B7 s7 T7 RU7 RP7 O57 O47 O67 L7 b7
          generalize w6.alloc (.cells #[.slice (some ⟨g6, 0, none⟩) n c6, .int .i64 (T.k : Int), .int .i64 (T.x : Int), .int .i64 (T.y : Int), .int .i64 (T.st : Int), .int .i64 (T.u : Int), .int .i64 (T.v : Int), .int .i64 (T.w : Int), .int .i64 (T.r : Int), .bool T.dn, .int .i64 (T.res : Int)] 44) = w7 at *
          have t5 : w5.heap.size < w7.heap.size := by omega
          have hlb7 : lb < w7.heap.size := by omega
          have n67 : g6 ≠ lb := by omega
          have hgl : lb ≠ g6 := by omega
          obtain ⟨_, _, _, _, _, _, _, _, _, _⟩ := T7.ten
          obtain ⟨_, _, _, _, _, _, _, _, _, _, _⟩ := B7.eleven
          have HRU7 := Lib.hid RU7
          have HRP7 := Lib.hid RP7
          have HO57 := Lib.hid O57
          have HO47 := Lib.hid O47
          have HO67 := Lib.hid O67
          have HL7 := Lib.hid L7
          have HB7 := Lib.hid b7
          have d0 : w7.cell? ⟨lb, 0, none⟩ = some (.int .i64 (t0.k : Int)) := HL7.out.cell 0
          have d1 : w7.cell? ⟨lb, 1, none⟩ = some (.int .i64 (t0.x : Int)) := HL7.out.cell 1
          have d2 : w7.cell? ⟨lb, 2, none⟩ = some (.int .i64 (t0.y : Int)) := HL7.out.cell 2
          have d3 : w7.cell? ⟨lb, 3, none⟩ = some (.int .i64 (t0.st : Int)) := HL7.out.cell 3
          have d4 : w7.cell? ⟨lb, 4, none⟩ = some (.int .i64 (t0.u : Int)) := HL7.out.cell 4
          have d5 : w7.cell? ⟨lb, 5, none⟩ = some (.int .i64 (t0.v : Int)) := HL7.out.cell 5
          have d6 : w7.cell? ⟨lb, 6, none⟩ = some (.int .i64 (t0.w : Int)) := HL7.out.cell 6
          have d7 : w7.cell? ⟨lb, 7, none⟩ = some (.int .i64 (t0.r : Int)) := HL7.out.cell 7
          have d8 : w7.cell? ⟨lb, 8, none⟩ = some (.bool t0.dn) := HL7.out.cell 8
          have d9 : w7.cell? ⟨lb, 9, none⟩ = some (.int .i64 (t0.res : Int)) := HL7.out.cell 9
          have f0 : w7.frozen? ⟨lb, 0, none⟩ = false := HL7.out.frozen 0
          have f1 : w7.frozen? ⟨lb, 1, none⟩ = false := HL7.out.frozen 1
          have f2 : w7.frozen? ⟨lb, 2, none⟩ = false := HL7.out.frozen 2
          have f3 : w7.frozen? ⟨lb, 3, none⟩ = false := HL7.out.frozen 3
          have f4 : w7.frozen? ⟨lb, 4, none⟩ = false := HL7.out.frozen 4
          have f5 : w7.frozen? ⟨lb, 5, none⟩ = false := HL7.out.frozen 5
          have f6 : w7.frozen? ⟨lb, 6, none⟩ = false := HL7.out.frozen 6
          have f7 : w7.frozen? ⟨lb, 7, none⟩ = false := HL7.out.frozen 7
          have f8 : w7.frozen? ⟨lb, 8, none⟩ = false := HL7.out.frozen 8
          have f9 : w7.frozen? ⟨lb, 9, none⟩ = false := HL7.out.frozen 9
          have hG := tk_guard
          have I5 := HOK.out.2.1
          have hE := fun W : World => tk_same (k := (T.k : Int)) (x := (T.x : Int)) (y := (T.y : Int)) (st := (T.st : Int)) (u := (T.u : Int)) (v := (T.v : Int)) (ww := (T.w : Int)) (r := (T.r : Int)) (res := (T.res : Int)) T.dn W (by have := I5.k3; unfold fits; omega) (by have := I5.xn; unfold fits; omega) (by have := I5.yn; unfold fits; omega) (by have := I5.s8; unfold fits; omega) (by have := I5.un; unfold fits; omega) (by have := I5.vn; unfold fits; omega) (by have := I5.wn; unfold fits; omega) (by have := I5.rn; unfold fits; omega) (by have := HRS.out; unfold fits; omega)
          have hlU := HOK.out.1.len
          have HF' := Lib.hid HOK.out.1
          clear I5 BT6 HRU6 HRP6 HO56 HO46 ho6 HL6 HB6 B7 T7 RU7 RP7 O57 O47 O67 L7 b7
          refine (ints_same _ _ n c5 c6 U _ (HO57.out.row (lo := 0) (hi := w7.heap.size) hlU (Nat.zero_le _) HO57.out.1) (HO67.out.row (lo := 0) (hi := w7.heap.size) hlU (Nat.zero_le _) HO67.out.1) (by omega)).mono ?_
          clear hlU
          rintro e w' ⟨rfl, m1, rfl⟩
          go_wp2_with fail
          refine (ints_same _ _ n c c4 up _ (HRU7.out.drewN' _) ((HO47.out.drewN _).row (lo := 0) (hi := w7.heap.size) HRU.out.1 (Nat.zero_le _) HO47.out.1) (by omega)).mono ?_
          rintro e w' ⟨rfl, m2, rfl⟩
          go_wp2_with fail
          refine (may_true _ _ n c5 n U pr _ HF'.out ((HO57.out.drewN _).row (lo := 0) (hi := w7.heap.size) HOK.out.1.len (Nat.zero_le _) HO57.out.1) (HRP7.out.drewN' _) (by omega)).mono ?_
          rintro e w' ⟨rfl, m3, rfl⟩
          go_wp2_with fail
          go_roundw
          case rel =>
            refine ⟨i + 1, _, _, U, T, t1, t2, by omega, by go_num, rfl, ?_, HF', ⟨⟨HOK.out.2.1, (hI.out.1.2.1.mono HOK.out.2.2.merge), (hI.out.1.2.2.mono HOK.out.2.2.merge)⟩, ⟨HRS.out, hI.out.2.2.1, hI.out.2.2.2⟩⟩, ?_, ?_⟩
            · have hoF := HO67.out
              refine ⟨g6, _, Own.row (g := g6) ?_ HOK.out.1.len (Nat.le_refl _) ?_, by omega, Nat.le_refl _, .inl (by omega)⟩
              · (repeat refine Own.setOther ?_ (by assumption) _); exact hoF
              · simpa using hoF.1
            · exact ((((((((((HL7.out.set 0 (.int .i64 (T.k : Int))).set 1 (.int .i64 (T.x : Int))).set 2 (.int .i64 (T.y : Int))).set 3 (.int .i64 (T.st : Int))).set 4 (.int .i64 (T.u : Int))).set 5 (.int .i64 (T.v : Int))).set 6 (.int .i64 (T.w : Int))).set 7 (.int .i64 (T.r : Int))).set 8 (.bool T.dn)).set 9 (.int .i64 (T.res : Int)))
            · have hbF : Below w2.heap.size w2 w7 := HB.out.trans (HB7.out.mono sr)
              (repeat refine Below.setCell ?_ (by assumption) _)
              exact below_drewN' hbF _
          case measure => simp [intOf]; omega
        · have hy : (y : Int) % 3 = 1 := by omega
          obtain ⟨T, hT⟩ : ∃ T, tks up pr t1 = T := ⟨_, rfl⟩
          obtain ⟨U, hU⟩ : ∃ U, ups up pr t1 = U := ⟨_, rfl⟩
          have ok := step_ok hF.out hI.out.1.2.1
          rw [hT, hU] at ok
          have HRS : Hid (T.res ≤ n) := by have := res_le hI.out.1.2.1 hI.out.2.2.1; rwa [hT] at this
          have HTE := Lib.hid hT
          have HUE := Lib.hid hU
          have HOK := Lib.hid ok
          clear hT hU ok hy3
          go_wp2_with (at_builtin; refine wpList_append_own _ rfl _ _ 22 rfl wr.heap.size 3 i0 (.int .i64 0) 1 8 Try.underlying22 hi0 hz0 hz1 hz2 rfl (by decide) (.slice (some ⟨wr.heap.size, 0, none⟩) 0 0) 0 [] rfl ?c0 ⟨bu, ou, none⟩ n c (intsOf up) rfl ?c1 ?c2 ?c3 ?c4 ?c5 ?c6 ?_)
          case c0 => exact World.ownsRow_made wr #[] 0 (Nat.le_refl _) (by decide) rfl
          case c1 => simp [intsOf, HRU.out.1]
          case c2 => have hn7 := (HRU.out.alloc hh5 (.cells #[] 3)).news; intro j u h; have h8 := hn7 j u h; rwa [Addr.add_lit] at h8
          case c3 => intro u hu; simp [intsOf] at hu; obtain ⟨n, _, rfl⟩ := hu; rfl
          case c4 => unfold maxLen; omega
          case c5 => omega
          intro v7 w4 hown hgr hnn
          have hb4 : Below wr.heap.size wr w4 := ((Below.refl _ _).alloc (Nat.le_refl _) _).grown hgr (by simp) (by rintro k hk; cases hk; exact Nat.le_refl _)
          obtain ⟨g4, c4, rfl, hg4, ho4⟩ := own_of_owns (p := up) (n := n) (by simpa using hown) HRU.out.1 hn0
          have s4 := hb4.size
          have HB4 := Lib.hid hb4
          have HO4 := Lib.hid ho4
          have hL4 := hL.out.below hb4
          clear hgr hnn hown hb4 ho4
          have d0 : w4.cell? ⟨lb, 10, none⟩ = some (.int .i64 (t1.k : Int)) := hL4.cell 10
          have d1 : w4.cell? ⟨lb, 11, none⟩ = some (.int .i64 (t1.x : Int)) := hL4.cell 11
          have d2 : w4.cell? ⟨lb, 12, none⟩ = some (.int .i64 (t1.y : Int)) := hL4.cell 12
          have d3 : w4.cell? ⟨lb, 13, none⟩ = some (.int .i64 (t1.st : Int)) := hL4.cell 13
          have d4 : w4.cell? ⟨lb, 14, none⟩ = some (.int .i64 (t1.u : Int)) := hL4.cell 14
          have d5 : w4.cell? ⟨lb, 15, none⟩ = some (.int .i64 (t1.v : Int)) := hL4.cell 15
          have d6 : w4.cell? ⟨lb, 16, none⟩ = some (.int .i64 (t1.w : Int)) := hL4.cell 16
          have d7 : w4.cell? ⟨lb, 17, none⟩ = some (.int .i64 (t1.r : Int)) := hL4.cell 17
          have d8 : w4.cell? ⟨lb, 18, none⟩ = some (.bool t1.dn) := hL4.cell 18
          have d9 : w4.cell? ⟨lb, 19, none⟩ = some (.int .i64 (t1.res : Int)) := hL4.cell 19
          clear hL4
          go_wp2_with fail
          refine (step_t (some ⟨bu, ou, none⟩) (some ⟨gp, 0, none⟩) n c n pr up t1 _ hI.out.1.2.1 (HRU.out.below HB4.out hh5) (by omega) (HRPr.out.below HB4.out (by omega)) (by omega) (by omega) T HTE.out U HUE.out).mono ?_
          rintro e w5 ⟨g5, c5, rfl, hg5, ho5, hb5⟩
          have s5 := hb5.size
          have HB5 : Hid (Below wr.heap.size wr w5) := HB4.out.trans (hb5.mono s4)
          have HO5 := Lib.hid ho5
          have HO45 := Lib.hid (HO4.out.below hb5 HO4.out.1)
          have hL5 := hL.out.below HB5.out
          clear hb5 ho5 d0 d1 d2 d3 d4 d5 d6 d7 d8 d9
          have d0 : w5.cell? ⟨lb, 10, none⟩ = some (.int .i64 (t1.k : Int)) := hL5.cell 10
          have d1 : w5.cell? ⟨lb, 11, none⟩ = some (.int .i64 (t1.x : Int)) := hL5.cell 11
          have d2 : w5.cell? ⟨lb, 12, none⟩ = some (.int .i64 (t1.y : Int)) := hL5.cell 12
          have d3 : w5.cell? ⟨lb, 13, none⟩ = some (.int .i64 (t1.st : Int)) := hL5.cell 13
          have d4 : w5.cell? ⟨lb, 14, none⟩ = some (.int .i64 (t1.u : Int)) := hL5.cell 14
          have d5 : w5.cell? ⟨lb, 15, none⟩ = some (.int .i64 (t1.v : Int)) := hL5.cell 15
          have d6 : w5.cell? ⟨lb, 16, none⟩ = some (.int .i64 (t1.w : Int)) := hL5.cell 16
          have d7 : w5.cell? ⟨lb, 17, none⟩ = some (.int .i64 (t1.r : Int)) := hL5.cell 17
          have d8 : w5.cell? ⟨lb, 18, none⟩ = some (.bool t1.dn) := hL5.cell 18
          have d9 : w5.cell? ⟨lb, 19, none⟩ = some (.int .i64 (t1.res : Int)) := hL5.cell 19
          clear hL5
          have hlb5 : lb < w5.heap.size := by omega
          go_wp2_with fail
          have s5a : (w5.alloc (.cells #[.int .i64 (T.k : Int), .int .i64 (T.x : Int), .int .i64 (T.y : Int), .int .i64 (T.st : Int), .int .i64 (T.u : Int), .int .i64 (T.v : Int), .int .i64 (T.w : Int), .int .i64 (T.r : Int), .bool T.dn, .int .i64 (T.res : Int)] 27)).heap.size = w5.heap.size + 1 := by simp
          have BT := Box.new w5 27 [.int .i64 (T.k : Int), .int .i64 (T.x : Int), .int .i64 (T.y : Int), .int .i64 (T.st : Int), .int .i64 (T.u : Int), .int .i64 (T.v : Int), .int .i64 (T.w : Int), .int .i64 (T.r : Int), .bool T.dn, .int .i64 (T.res : Int)]
          have HBT := Lib.hid BT
          have HRU5 := Lib.hid ((HRU.out.below HB5.out hh5).alloc (by omega) (.cells #[.int .i64 (T.k : Int), .int .i64 (T.x : Int), .int .i64 (T.y : Int), .int .i64 (T.st : Int), .int .i64 (T.u : Int), .int .i64 (T.v : Int), .int .i64 (T.w : Int), .int .i64 (T.r : Int), .bool T.dn, .int .i64 (T.res : Int)] 27))
          have HRP5 := Lib.hid ((HRPr.out.below HB5.out (by omega)).alloc (by omega) (.cells #[.int .i64 (T.k : Int), .int .i64 (T.x : Int), .int .i64 (T.y : Int), .int .i64 (T.st : Int), .int .i64 (T.u : Int), .int .i64 (T.v : Int), .int .i64 (T.w : Int), .int .i64 (T.r : Int), .bool T.dn, .int .i64 (T.res : Int)] 27))
          have HO5a := Lib.hid (HO5.out.alloc (.cells #[.int .i64 (T.k : Int), .int .i64 (T.x : Int), .int .i64 (T.y : Int), .int .i64 (T.st : Int), .int .i64 (T.u : Int), .int .i64 (T.v : Int), .int .i64 (T.w : Int), .int .i64 (T.r : Int), .bool T.dn, .int .i64 (T.res : Int)] 27))
          have HO4a := Lib.hid (HO45.out.alloc (.cells #[.int .i64 (T.k : Int), .int .i64 (T.x : Int), .int .i64 (T.y : Int), .int .i64 (T.st : Int), .int .i64 (T.u : Int), .int .i64 (T.v : Int), .int .i64 (T.w : Int), .int .i64 (T.r : Int), .bool T.dn, .int .i64 (T.res : Int)] 27))
          have HL5a := Lib.hid ((hL.out.below HB5.out).alloc (.cells #[.int .i64 (T.k : Int), .int .i64 (T.x : Int), .int .i64 (T.y : Int), .int .i64 (T.st : Int), .int .i64 (T.u : Int), .int .i64 (T.v : Int), .int .i64 (T.w : Int), .int .i64 (T.r : Int), .bool T.dn, .int .i64 (T.res : Int)] 27))
          have HB5a : Hid (Below wr.heap.size wr (w5.alloc (.cells #[.int .i64 (T.k : Int), .int .i64 (T.x : Int), .int .i64 (T.y : Int), .int .i64 (T.st : Int), .int .i64 (T.u : Int), .int .i64 (T.v : Int), .int .i64 (T.w : Int), .int .i64 (T.r : Int), .bool T.dn, .int .i64 (T.res : Int)] 27))) := HB5.out.alloc (by omega) _
          refine (rstep_t (some ⟨bu, ou, none⟩) (some ⟨gp, 0, none⟩) n c n pr up t1 _ hI.out.1.2.1 HRU5.out (by omega) HRP5.out (by omega) (by omega) T HTE.out U HUE.out).mono ?_
          rintro e w6 ⟨g6, c6, rfl, hg6, ho6, hb6⟩
          have s6 := hb6.size
          rw [s5a] at s6 hg6
          have BT6 := HBT.out.below hb6
          have HRU6 := HRU5.out.below hb6 (by omega)
          have HRP6 := HRP5.out.below hb6 (by omega)
          have HO56 := HO5a.out.below hb6 HO5a.out.1
          have HO46 := HO4a.out.below hb6 HO4a.out.1
          have HL6 := HL5a.out.below hb6
          have HB6 : Below wr.heap.size wr w6 := HB5a.out.trans (hb6.mono (by omega))
          clear hb6 d0 d1 d2 d3 d4 d5 d6 d7 d8 d9 BT s5a
          go_wp2_with fail
          have s7 : w6.heap.size < (w6.alloc (.cells #[.slice (some ⟨g6, 0, none⟩) n c6, .int .i64 (T.k : Int), .int .i64 (T.x : Int), .int .i64 (T.y : Int), .int .i64 (T.st : Int), .int .i64 (T.u : Int), .int .i64 (T.v : Int), .int .i64 (T.w : Int), .int .i64 (T.r : Int), .bool T.dn, .int .i64 (T.res : Int)] 44)).heap.size := by simp
          have B7 := Box.new w6 44 [.slice (some ⟨g6, 0, none⟩) n c6, .int .i64 (T.k : Int), .int .i64 (T.x : Int), .int .i64 (T.y : Int), .int .i64 (T.st : Int), .int .i64 (T.u : Int), .int .i64 (T.v : Int), .int .i64 (T.w : Int), .int .i64 (T.r : Int), .bool T.dn, .int .i64 (T.res : Int)]
          have T7 := BT6.alloc (.cells #[.slice (some ⟨g6, 0, none⟩) n c6, .int .i64 (T.k : Int), .int .i64 (T.x : Int), .int .i64 (T.y : Int), .int .i64 (T.st : Int), .int .i64 (T.u : Int), .int .i64 (T.v : Int), .int .i64 (T.w : Int), .int .i64 (T.r : Int), .bool T.dn, .int .i64 (T.res : Int)] 44)
          have RU7 := HRU6.alloc (by omega) (.cells #[.slice (some ⟨g6, 0, none⟩) n c6, .int .i64 (T.k : Int), .int .i64 (T.x : Int), .int .i64 (T.y : Int), .int .i64 (T.st : Int), .int .i64 (T.u : Int), .int .i64 (T.v : Int), .int .i64 (T.w : Int), .int .i64 (T.r : Int), .bool T.dn, .int .i64 (T.res : Int)] 44)
          have RP7 := HRP6.alloc (by omega) (.cells #[.slice (some ⟨g6, 0, none⟩) n c6, .int .i64 (T.k : Int), .int .i64 (T.x : Int), .int .i64 (T.y : Int), .int .i64 (T.st : Int), .int .i64 (T.u : Int), .int .i64 (T.v : Int), .int .i64 (T.w : Int), .int .i64 (T.r : Int), .bool T.dn, .int .i64 (T.res : Int)] 44)
          have O57 := HO56.alloc (.cells #[.slice (some ⟨g6, 0, none⟩) n c6, .int .i64 (T.k : Int), .int .i64 (T.x : Int), .int .i64 (T.y : Int), .int .i64 (T.st : Int), .int .i64 (T.u : Int), .int .i64 (T.v : Int), .int .i64 (T.w : Int), .int .i64 (T.r : Int), .bool T.dn, .int .i64 (T.res : Int)] 44)
          have O47 := HO46.alloc (.cells #[.slice (some ⟨g6, 0, none⟩) n c6, .int .i64 (T.k : Int), .int .i64 (T.x : Int), .int .i64 (T.y : Int), .int .i64 (T.st : Int), .int .i64 (T.u : Int), .int .i64 (T.v : Int), .int .i64 (T.w : Int), .int .i64 (T.r : Int), .bool T.dn, .int .i64 (T.res : Int)] 44)
          have O67 := ho6.alloc (.cells #[.slice (some ⟨g6, 0, none⟩) n c6, .int .i64 (T.k : Int), .int .i64 (T.x : Int), .int .i64 (T.y : Int), .int .i64 (T.st : Int), .int .i64 (T.u : Int), .int .i64 (T.v : Int), .int .i64 (T.w : Int), .int .i64 (T.r : Int), .bool T.dn, .int .i64 (T.res : Int)] 44)
          have L7 := HL6.alloc (.cells #[.slice (some ⟨g6, 0, none⟩) n c6, .int .i64 (T.k : Int), .int .i64 (T.x : Int), .int .i64 (T.y : Int), .int .i64 (T.st : Int), .int .i64 (T.u : Int), .int .i64 (T.v : Int), .int .i64 (T.w : Int), .int .i64 (T.r : Int), .bool T.dn, .int .i64 (T.res : Int)] 44)
          have b7 := HB6.alloc (by omega) (.cells #[.slice (some ⟨g6, 0, none⟩) n c6, .int .i64 (T.k : Int), .int .i64 (T.x : Int), .int .i64 (T.y : Int), .int .i64 (T.st : Int), .int .i64 (T.u : Int), .int .i64 (T.v : Int), .int .i64 (T.w : Int), .int .i64 (T.r : Int), .bool T.dn, .int .i64 (T.res : Int)] 44)
          simp only [List.toArray] at B7 s7 T7 RU7 RP7 O57 O47 O67 L7 b7
          generalize w6.alloc (.cells #[.slice (some ⟨g6, 0, none⟩) n c6, .int .i64 (T.k : Int), .int .i64 (T.x : Int), .int .i64 (T.y : Int), .int .i64 (T.st : Int), .int .i64 (T.u : Int), .int .i64 (T.v : Int), .int .i64 (T.w : Int), .int .i64 (T.r : Int), .bool T.dn, .int .i64 (T.res : Int)] 44) = w7 at *
          have t5 : w5.heap.size < w7.heap.size := by omega
          have hlb7 : lb < w7.heap.size := by omega
          have n67 : g6 ≠ lb := by omega
          have hgl : lb ≠ g6 := by omega
          obtain ⟨_, _, _, _, _, _, _, _, _, _⟩ := T7.ten
          obtain ⟨_, _, _, _, _, _, _, _, _, _, _⟩ := B7.eleven
          have HRU7 := Lib.hid RU7
          have HRP7 := Lib.hid RP7
          have HO57 := Lib.hid O57
          have HO47 := Lib.hid O47
          have HO67 := Lib.hid O67
          have HL7 := Lib.hid L7
          have HB7 := Lib.hid b7
          have d0 : w7.cell? ⟨lb, 10, none⟩ = some (.int .i64 (t1.k : Int)) := HL7.out.cell 10
          have d1 : w7.cell? ⟨lb, 11, none⟩ = some (.int .i64 (t1.x : Int)) := HL7.out.cell 11
          have d2 : w7.cell? ⟨lb, 12, none⟩ = some (.int .i64 (t1.y : Int)) := HL7.out.cell 12
          have d3 : w7.cell? ⟨lb, 13, none⟩ = some (.int .i64 (t1.st : Int)) := HL7.out.cell 13
          have d4 : w7.cell? ⟨lb, 14, none⟩ = some (.int .i64 (t1.u : Int)) := HL7.out.cell 14
          have d5 : w7.cell? ⟨lb, 15, none⟩ = some (.int .i64 (t1.v : Int)) := HL7.out.cell 15
          have d6 : w7.cell? ⟨lb, 16, none⟩ = some (.int .i64 (t1.w : Int)) := HL7.out.cell 16
          have d7 : w7.cell? ⟨lb, 17, none⟩ = some (.int .i64 (t1.r : Int)) := HL7.out.cell 17
          have d8 : w7.cell? ⟨lb, 18, none⟩ = some (.bool t1.dn) := HL7.out.cell 18
          have d9 : w7.cell? ⟨lb, 19, none⟩ = some (.int .i64 (t1.res : Int)) := HL7.out.cell 19
          have f0 : w7.frozen? ⟨lb, 10, none⟩ = false := HL7.out.frozen 10
          have f1 : w7.frozen? ⟨lb, 11, none⟩ = false := HL7.out.frozen 11
          have f2 : w7.frozen? ⟨lb, 12, none⟩ = false := HL7.out.frozen 12
          have f3 : w7.frozen? ⟨lb, 13, none⟩ = false := HL7.out.frozen 13
          have f4 : w7.frozen? ⟨lb, 14, none⟩ = false := HL7.out.frozen 14
          have f5 : w7.frozen? ⟨lb, 15, none⟩ = false := HL7.out.frozen 15
          have f6 : w7.frozen? ⟨lb, 16, none⟩ = false := HL7.out.frozen 16
          have f7 : w7.frozen? ⟨lb, 17, none⟩ = false := HL7.out.frozen 17
          have f8 : w7.frozen? ⟨lb, 18, none⟩ = false := HL7.out.frozen 18
          have f9 : w7.frozen? ⟨lb, 19, none⟩ = false := HL7.out.frozen 19
          have hG := tk_guard
          have I5 := HOK.out.2.1
          have hE := fun W : World => tk_same (k := (T.k : Int)) (x := (T.x : Int)) (y := (T.y : Int)) (st := (T.st : Int)) (u := (T.u : Int)) (v := (T.v : Int)) (ww := (T.w : Int)) (r := (T.r : Int)) (res := (T.res : Int)) T.dn W (by have := I5.k3; unfold fits; omega) (by have := I5.xn; unfold fits; omega) (by have := I5.yn; unfold fits; omega) (by have := I5.s8; unfold fits; omega) (by have := I5.un; unfold fits; omega) (by have := I5.vn; unfold fits; omega) (by have := I5.wn; unfold fits; omega) (by have := I5.rn; unfold fits; omega) (by have := HRS.out; unfold fits; omega)
          have hlU := HOK.out.1.len
          have HF' := Lib.hid HOK.out.1
          clear I5 BT6 HRU6 HRP6 HO56 HO46 ho6 HL6 HB6 B7 T7 RU7 RP7 O57 O47 O67 L7 b7
          refine (ints_same _ _ n c5 c6 U _ (HO57.out.row (lo := 0) (hi := w7.heap.size) hlU (Nat.zero_le _) HO57.out.1) (HO67.out.row (lo := 0) (hi := w7.heap.size) hlU (Nat.zero_le _) HO67.out.1) (by omega)).mono ?_
          clear hlU
          rintro e w' ⟨rfl, m1, rfl⟩
          go_wp2_with fail
          refine (ints_same _ _ n c c4 up _ (HRU7.out.drewN' _) ((HO47.out.drewN _).row (lo := 0) (hi := w7.heap.size) HRU.out.1 (Nat.zero_le _) HO47.out.1) (by omega)).mono ?_
          rintro e w' ⟨rfl, m2, rfl⟩
          go_wp2_with fail
          refine (may_true _ _ n c5 n U pr _ HF'.out ((HO57.out.drewN _).row (lo := 0) (hi := w7.heap.size) HOK.out.1.len (Nat.zero_le _) HO57.out.1) (HRP7.out.drewN' _) (by omega)).mono ?_
          rintro e w' ⟨rfl, m3, rfl⟩
          go_wp2_with fail
          go_roundw
          case rel =>
            refine ⟨i + 1, _, _, U, t0, T, t2, by omega, by go_num, rfl, ?_, HF', ⟨⟨(hI.out.1.1.mono HOK.out.2.2.merge), HOK.out.2.1, (hI.out.1.2.2.mono HOK.out.2.2.merge)⟩, ⟨hI.out.2.1, HRS.out, hI.out.2.2.2⟩⟩, ?_, ?_⟩
            · have hoF := HO67.out
              refine ⟨g6, _, Own.row (g := g6) ?_ HOK.out.1.len (Nat.le_refl _) ?_, by omega, Nat.le_refl _, .inl (by omega)⟩
              · (repeat refine Own.setOther ?_ (by assumption) _); exact hoF
              · simpa using hoF.1
            · exact ((((((((((HL7.out.set 10 (.int .i64 (T.k : Int))).set 11 (.int .i64 (T.x : Int))).set 12 (.int .i64 (T.y : Int))).set 13 (.int .i64 (T.st : Int))).set 14 (.int .i64 (T.u : Int))).set 15 (.int .i64 (T.v : Int))).set 16 (.int .i64 (T.w : Int))).set 17 (.int .i64 (T.r : Int))).set 18 (.bool T.dn)).set 19 (.int .i64 (T.res : Int)))
            · have hbF : Below w2.heap.size w2 w7 := HB.out.trans (HB7.out.mono sr)
              (repeat refine Below.setCell ?_ (by assumption) _)
              exact below_drewN' hbF _
          case measure => simp [intOf]; omega
        · have hy : (y : Int) % 3 = 2 := by omega
          obtain ⟨T, hT⟩ : ∃ T, tks up pr t2 = T := ⟨_, rfl⟩
          obtain ⟨U, hU⟩ : ∃ U, ups up pr t2 = U := ⟨_, rfl⟩
          have ok := step_ok hF.out hI.out.1.2.2
          rw [hT, hU] at ok
          have HRS : Hid (T.res ≤ n) := by have := res_le hI.out.1.2.2 hI.out.2.2.2; rwa [hT] at this
          have HTE := Lib.hid hT
          have HUE := Lib.hid hU
          have HOK := Lib.hid ok
          clear hT hU ok hy3
          go_wp2_with (at_builtin; refine wpList_append_own _ rfl _ _ 22 rfl wr.heap.size 3 i0 (.int .i64 0) 1 8 Try.underlying22 hi0 hz0 hz1 hz2 rfl (by decide) (.slice (some ⟨wr.heap.size, 0, none⟩) 0 0) 0 [] rfl ?c0 ⟨bu, ou, none⟩ n c (intsOf up) rfl ?c1 ?c2 ?c3 ?c4 ?c5 ?c6 ?_)
          case c0 => exact World.ownsRow_made wr #[] 0 (Nat.le_refl _) (by decide) rfl
          case c1 => simp [intsOf, HRU.out.1]
          case c2 => have hn7 := (HRU.out.alloc hh5 (.cells #[] 3)).news; intro j u h; have h8 := hn7 j u h; rwa [Addr.add_lit] at h8
          case c3 => intro u hu; simp [intsOf] at hu; obtain ⟨n, _, rfl⟩ := hu; rfl
          case c4 => unfold maxLen; omega
          case c5 => omega
          intro v7 w4 hown hgr hnn
          have hb4 : Below wr.heap.size wr w4 := ((Below.refl _ _).alloc (Nat.le_refl _) _).grown hgr (by simp) (by rintro k hk; cases hk; exact Nat.le_refl _)
          obtain ⟨g4, c4, rfl, hg4, ho4⟩ := own_of_owns (p := up) (n := n) (by simpa using hown) HRU.out.1 hn0
          have s4 := hb4.size
          have HB4 := Lib.hid hb4
          have HO4 := Lib.hid ho4
          have hL4 := hL.out.below hb4
          clear hgr hnn hown hb4 ho4
          have d0 : w4.cell? ⟨lb, 20, none⟩ = some (.int .i64 (t2.k : Int)) := hL4.cell 20
          have d1 : w4.cell? ⟨lb, 21, none⟩ = some (.int .i64 (t2.x : Int)) := hL4.cell 21
          have d2 : w4.cell? ⟨lb, 22, none⟩ = some (.int .i64 (t2.y : Int)) := hL4.cell 22
          have d3 : w4.cell? ⟨lb, 23, none⟩ = some (.int .i64 (t2.st : Int)) := hL4.cell 23
          have d4 : w4.cell? ⟨lb, 24, none⟩ = some (.int .i64 (t2.u : Int)) := hL4.cell 24
          have d5 : w4.cell? ⟨lb, 25, none⟩ = some (.int .i64 (t2.v : Int)) := hL4.cell 25
          have d6 : w4.cell? ⟨lb, 26, none⟩ = some (.int .i64 (t2.w : Int)) := hL4.cell 26
          have d7 : w4.cell? ⟨lb, 27, none⟩ = some (.int .i64 (t2.r : Int)) := hL4.cell 27
          have d8 : w4.cell? ⟨lb, 28, none⟩ = some (.bool t2.dn) := hL4.cell 28
          have d9 : w4.cell? ⟨lb, 29, none⟩ = some (.int .i64 (t2.res : Int)) := hL4.cell 29
          clear hL4
          go_wp2_with fail
          refine (step_t (some ⟨bu, ou, none⟩) (some ⟨gp, 0, none⟩) n c n pr up t2 _ hI.out.1.2.2 (HRU.out.below HB4.out hh5) (by omega) (HRPr.out.below HB4.out (by omega)) (by omega) (by omega) T HTE.out U HUE.out).mono ?_
          rintro e w5 ⟨g5, c5, rfl, hg5, ho5, hb5⟩
          have s5 := hb5.size
          have HB5 : Hid (Below wr.heap.size wr w5) := HB4.out.trans (hb5.mono s4)
          have HO5 := Lib.hid ho5
          have HO45 := Lib.hid (HO4.out.below hb5 HO4.out.1)
          have hL5 := hL.out.below HB5.out
          clear hb5 ho5 d0 d1 d2 d3 d4 d5 d6 d7 d8 d9
          have d0 : w5.cell? ⟨lb, 20, none⟩ = some (.int .i64 (t2.k : Int)) := hL5.cell 20
          have d1 : w5.cell? ⟨lb, 21, none⟩ = some (.int .i64 (t2.x : Int)) := hL5.cell 21
          have d2 : w5.cell? ⟨lb, 22, none⟩ = some (.int .i64 (t2.y : Int)) := hL5.cell 22
          have d3 : w5.cell? ⟨lb, 23, none⟩ = some (.int .i64 (t2.st : Int)) := hL5.cell 23
          have d4 : w5.cell? ⟨lb, 24, none⟩ = some (.int .i64 (t2.u : Int)) := hL5.cell 24
          have d5 : w5.cell? ⟨lb, 25, none⟩ = some (.int .i64 (t2.v : Int)) := hL5.cell 25
          have d6 : w5.cell? ⟨lb, 26, none⟩ = some (.int .i64 (t2.w : Int)) := hL5.cell 26
          have d7 : w5.cell? ⟨lb, 27, none⟩ = some (.int .i64 (t2.r : Int)) := hL5.cell 27
          have d8 : w5.cell? ⟨lb, 28, none⟩ = some (.bool t2.dn) := hL5.cell 28
          have d9 : w5.cell? ⟨lb, 29, none⟩ = some (.int .i64 (t2.res : Int)) := hL5.cell 29
          clear hL5
          have hlb5 : lb < w5.heap.size := by omega
          go_wp2_with fail
          have s5a : (w5.alloc (.cells #[.int .i64 (T.k : Int), .int .i64 (T.x : Int), .int .i64 (T.y : Int), .int .i64 (T.st : Int), .int .i64 (T.u : Int), .int .i64 (T.v : Int), .int .i64 (T.w : Int), .int .i64 (T.r : Int), .bool T.dn, .int .i64 (T.res : Int)] 27)).heap.size = w5.heap.size + 1 := by simp
          have BT := Box.new w5 27 [.int .i64 (T.k : Int), .int .i64 (T.x : Int), .int .i64 (T.y : Int), .int .i64 (T.st : Int), .int .i64 (T.u : Int), .int .i64 (T.v : Int), .int .i64 (T.w : Int), .int .i64 (T.r : Int), .bool T.dn, .int .i64 (T.res : Int)]
          have HBT := Lib.hid BT
          have HRU5 := Lib.hid ((HRU.out.below HB5.out hh5).alloc (by omega) (.cells #[.int .i64 (T.k : Int), .int .i64 (T.x : Int), .int .i64 (T.y : Int), .int .i64 (T.st : Int), .int .i64 (T.u : Int), .int .i64 (T.v : Int), .int .i64 (T.w : Int), .int .i64 (T.r : Int), .bool T.dn, .int .i64 (T.res : Int)] 27))
          have HRP5 := Lib.hid ((HRPr.out.below HB5.out (by omega)).alloc (by omega) (.cells #[.int .i64 (T.k : Int), .int .i64 (T.x : Int), .int .i64 (T.y : Int), .int .i64 (T.st : Int), .int .i64 (T.u : Int), .int .i64 (T.v : Int), .int .i64 (T.w : Int), .int .i64 (T.r : Int), .bool T.dn, .int .i64 (T.res : Int)] 27))
          have HO5a := Lib.hid (HO5.out.alloc (.cells #[.int .i64 (T.k : Int), .int .i64 (T.x : Int), .int .i64 (T.y : Int), .int .i64 (T.st : Int), .int .i64 (T.u : Int), .int .i64 (T.v : Int), .int .i64 (T.w : Int), .int .i64 (T.r : Int), .bool T.dn, .int .i64 (T.res : Int)] 27))
          have HO4a := Lib.hid (HO45.out.alloc (.cells #[.int .i64 (T.k : Int), .int .i64 (T.x : Int), .int .i64 (T.y : Int), .int .i64 (T.st : Int), .int .i64 (T.u : Int), .int .i64 (T.v : Int), .int .i64 (T.w : Int), .int .i64 (T.r : Int), .bool T.dn, .int .i64 (T.res : Int)] 27))
          have HL5a := Lib.hid ((hL.out.below HB5.out).alloc (.cells #[.int .i64 (T.k : Int), .int .i64 (T.x : Int), .int .i64 (T.y : Int), .int .i64 (T.st : Int), .int .i64 (T.u : Int), .int .i64 (T.v : Int), .int .i64 (T.w : Int), .int .i64 (T.r : Int), .bool T.dn, .int .i64 (T.res : Int)] 27))
          have HB5a : Hid (Below wr.heap.size wr (w5.alloc (.cells #[.int .i64 (T.k : Int), .int .i64 (T.x : Int), .int .i64 (T.y : Int), .int .i64 (T.st : Int), .int .i64 (T.u : Int), .int .i64 (T.v : Int), .int .i64 (T.w : Int), .int .i64 (T.r : Int), .bool T.dn, .int .i64 (T.res : Int)] 27))) := HB5.out.alloc (by omega) _
          refine (rstep_t (some ⟨bu, ou, none⟩) (some ⟨gp, 0, none⟩) n c n pr up t2 _ hI.out.1.2.2 HRU5.out (by omega) HRP5.out (by omega) (by omega) T HTE.out U HUE.out).mono ?_
          rintro e w6 ⟨g6, c6, rfl, hg6, ho6, hb6⟩
          have s6 := hb6.size
          rw [s5a] at s6 hg6
          have BT6 := HBT.out.below hb6
          have HRU6 := HRU5.out.below hb6 (by omega)
          have HRP6 := HRP5.out.below hb6 (by omega)
          have HO56 := HO5a.out.below hb6 HO5a.out.1
          have HO46 := HO4a.out.below hb6 HO4a.out.1
          have HL6 := HL5a.out.below hb6
          have HB6 : Below wr.heap.size wr w6 := HB5a.out.trans (hb6.mono (by omega))
          clear hb6 d0 d1 d2 d3 d4 d5 d6 d7 d8 d9 BT s5a
          go_wp2_with fail
          have s7 : w6.heap.size < (w6.alloc (.cells #[.slice (some ⟨g6, 0, none⟩) n c6, .int .i64 (T.k : Int), .int .i64 (T.x : Int), .int .i64 (T.y : Int), .int .i64 (T.st : Int), .int .i64 (T.u : Int), .int .i64 (T.v : Int), .int .i64 (T.w : Int), .int .i64 (T.r : Int), .bool T.dn, .int .i64 (T.res : Int)] 44)).heap.size := by simp
          have B7 := Box.new w6 44 [.slice (some ⟨g6, 0, none⟩) n c6, .int .i64 (T.k : Int), .int .i64 (T.x : Int), .int .i64 (T.y : Int), .int .i64 (T.st : Int), .int .i64 (T.u : Int), .int .i64 (T.v : Int), .int .i64 (T.w : Int), .int .i64 (T.r : Int), .bool T.dn, .int .i64 (T.res : Int)]
          have T7 := BT6.alloc (.cells #[.slice (some ⟨g6, 0, none⟩) n c6, .int .i64 (T.k : Int), .int .i64 (T.x : Int), .int .i64 (T.y : Int), .int .i64 (T.st : Int), .int .i64 (T.u : Int), .int .i64 (T.v : Int), .int .i64 (T.w : Int), .int .i64 (T.r : Int), .bool T.dn, .int .i64 (T.res : Int)] 44)
          have RU7 := HRU6.alloc (by omega) (.cells #[.slice (some ⟨g6, 0, none⟩) n c6, .int .i64 (T.k : Int), .int .i64 (T.x : Int), .int .i64 (T.y : Int), .int .i64 (T.st : Int), .int .i64 (T.u : Int), .int .i64 (T.v : Int), .int .i64 (T.w : Int), .int .i64 (T.r : Int), .bool T.dn, .int .i64 (T.res : Int)] 44)
          have RP7 := HRP6.alloc (by omega) (.cells #[.slice (some ⟨g6, 0, none⟩) n c6, .int .i64 (T.k : Int), .int .i64 (T.x : Int), .int .i64 (T.y : Int), .int .i64 (T.st : Int), .int .i64 (T.u : Int), .int .i64 (T.v : Int), .int .i64 (T.w : Int), .int .i64 (T.r : Int), .bool T.dn, .int .i64 (T.res : Int)] 44)
          have O57 := HO56.alloc (.cells #[.slice (some ⟨g6, 0, none⟩) n c6, .int .i64 (T.k : Int), .int .i64 (T.x : Int), .int .i64 (T.y : Int), .int .i64 (T.st : Int), .int .i64 (T.u : Int), .int .i64 (T.v : Int), .int .i64 (T.w : Int), .int .i64 (T.r : Int), .bool T.dn, .int .i64 (T.res : Int)] 44)
          have O47 := HO46.alloc (.cells #[.slice (some ⟨g6, 0, none⟩) n c6, .int .i64 (T.k : Int), .int .i64 (T.x : Int), .int .i64 (T.y : Int), .int .i64 (T.st : Int), .int .i64 (T.u : Int), .int .i64 (T.v : Int), .int .i64 (T.w : Int), .int .i64 (T.r : Int), .bool T.dn, .int .i64 (T.res : Int)] 44)
          have O67 := ho6.alloc (.cells #[.slice (some ⟨g6, 0, none⟩) n c6, .int .i64 (T.k : Int), .int .i64 (T.x : Int), .int .i64 (T.y : Int), .int .i64 (T.st : Int), .int .i64 (T.u : Int), .int .i64 (T.v : Int), .int .i64 (T.w : Int), .int .i64 (T.r : Int), .bool T.dn, .int .i64 (T.res : Int)] 44)
          have L7 := HL6.alloc (.cells #[.slice (some ⟨g6, 0, none⟩) n c6, .int .i64 (T.k : Int), .int .i64 (T.x : Int), .int .i64 (T.y : Int), .int .i64 (T.st : Int), .int .i64 (T.u : Int), .int .i64 (T.v : Int), .int .i64 (T.w : Int), .int .i64 (T.r : Int), .bool T.dn, .int .i64 (T.res : Int)] 44)
          have b7 := HB6.alloc (by omega) (.cells #[.slice (some ⟨g6, 0, none⟩) n c6, .int .i64 (T.k : Int), .int .i64 (T.x : Int), .int .i64 (T.y : Int), .int .i64 (T.st : Int), .int .i64 (T.u : Int), .int .i64 (T.v : Int), .int .i64 (T.w : Int), .int .i64 (T.r : Int), .bool T.dn, .int .i64 (T.res : Int)] 44)
          simp only [List.toArray] at B7 s7 T7 RU7 RP7 O57 O47 O67 L7 b7
          generalize w6.alloc (.cells #[.slice (some ⟨g6, 0, none⟩) n c6, .int .i64 (T.k : Int), .int .i64 (T.x : Int), .int .i64 (T.y : Int), .int .i64 (T.st : Int), .int .i64 (T.u : Int), .int .i64 (T.v : Int), .int .i64 (T.w : Int), .int .i64 (T.r : Int), .bool T.dn, .int .i64 (T.res : Int)] 44) = w7 at *
          have t5 : w5.heap.size < w7.heap.size := by omega
          have hlb7 : lb < w7.heap.size := by omega
          have n67 : g6 ≠ lb := by omega
          have hgl : lb ≠ g6 := by omega
          obtain ⟨_, _, _, _, _, _, _, _, _, _⟩ := T7.ten
          obtain ⟨_, _, _, _, _, _, _, _, _, _, _⟩ := B7.eleven
          have HRU7 := Lib.hid RU7
          have HRP7 := Lib.hid RP7
          have HO57 := Lib.hid O57
          have HO47 := Lib.hid O47
          have HO67 := Lib.hid O67
          have HL7 := Lib.hid L7
          have HB7 := Lib.hid b7
          have d0 : w7.cell? ⟨lb, 20, none⟩ = some (.int .i64 (t2.k : Int)) := HL7.out.cell 20
          have d1 : w7.cell? ⟨lb, 21, none⟩ = some (.int .i64 (t2.x : Int)) := HL7.out.cell 21
          have d2 : w7.cell? ⟨lb, 22, none⟩ = some (.int .i64 (t2.y : Int)) := HL7.out.cell 22
          have d3 : w7.cell? ⟨lb, 23, none⟩ = some (.int .i64 (t2.st : Int)) := HL7.out.cell 23
          have d4 : w7.cell? ⟨lb, 24, none⟩ = some (.int .i64 (t2.u : Int)) := HL7.out.cell 24
          have d5 : w7.cell? ⟨lb, 25, none⟩ = some (.int .i64 (t2.v : Int)) := HL7.out.cell 25
          have d6 : w7.cell? ⟨lb, 26, none⟩ = some (.int .i64 (t2.w : Int)) := HL7.out.cell 26
          have d7 : w7.cell? ⟨lb, 27, none⟩ = some (.int .i64 (t2.r : Int)) := HL7.out.cell 27
          have d8 : w7.cell? ⟨lb, 28, none⟩ = some (.bool t2.dn) := HL7.out.cell 28
          have d9 : w7.cell? ⟨lb, 29, none⟩ = some (.int .i64 (t2.res : Int)) := HL7.out.cell 29
          have f0 : w7.frozen? ⟨lb, 20, none⟩ = false := HL7.out.frozen 20
          have f1 : w7.frozen? ⟨lb, 21, none⟩ = false := HL7.out.frozen 21
          have f2 : w7.frozen? ⟨lb, 22, none⟩ = false := HL7.out.frozen 22
          have f3 : w7.frozen? ⟨lb, 23, none⟩ = false := HL7.out.frozen 23
          have f4 : w7.frozen? ⟨lb, 24, none⟩ = false := HL7.out.frozen 24
          have f5 : w7.frozen? ⟨lb, 25, none⟩ = false := HL7.out.frozen 25
          have f6 : w7.frozen? ⟨lb, 26, none⟩ = false := HL7.out.frozen 26
          have f7 : w7.frozen? ⟨lb, 27, none⟩ = false := HL7.out.frozen 27
          have f8 : w7.frozen? ⟨lb, 28, none⟩ = false := HL7.out.frozen 28
          have f9 : w7.frozen? ⟨lb, 29, none⟩ = false := HL7.out.frozen 29
          have hG := tk_guard
          have I5 := HOK.out.2.1
          have hE := fun W : World => tk_same (k := (T.k : Int)) (x := (T.x : Int)) (y := (T.y : Int)) (st := (T.st : Int)) (u := (T.u : Int)) (v := (T.v : Int)) (ww := (T.w : Int)) (r := (T.r : Int)) (res := (T.res : Int)) T.dn W (by have := I5.k3; unfold fits; omega) (by have := I5.xn; unfold fits; omega) (by have := I5.yn; unfold fits; omega) (by have := I5.s8; unfold fits; omega) (by have := I5.un; unfold fits; omega) (by have := I5.vn; unfold fits; omega) (by have := I5.wn; unfold fits; omega) (by have := I5.rn; unfold fits; omega) (by have := HRS.out; unfold fits; omega)
          have hlU := HOK.out.1.len
          have HF' := Lib.hid HOK.out.1
          clear I5 BT6 HRU6 HRP6 HO56 HO46 ho6 HL6 HB6 B7 T7 RU7 RP7 O57 O47 O67 L7 b7
          refine (ints_same _ _ n c5 c6 U _ (HO57.out.row (lo := 0) (hi := w7.heap.size) hlU (Nat.zero_le _) HO57.out.1) (HO67.out.row (lo := 0) (hi := w7.heap.size) hlU (Nat.zero_le _) HO67.out.1) (by omega)).mono ?_
          clear hlU
          rintro e w' ⟨rfl, m1, rfl⟩
          go_wp2_with fail
          refine (ints_same _ _ n c c4 up _ (HRU7.out.drewN' _) ((HO47.out.drewN _).row (lo := 0) (hi := w7.heap.size) HRU.out.1 (Nat.zero_le _) HO47.out.1) (by omega)).mono ?_
          rintro e w' ⟨rfl, m2, rfl⟩
          go_wp2_with fail
          refine (may_true _ _ n c5 n U pr _ HF'.out ((HO57.out.drewN _).row (lo := 0) (hi := w7.heap.size) HOK.out.1.len (Nat.zero_le _) HO57.out.1) (HRP7.out.drewN' _) (by omega)).mono ?_
          rintro e w' ⟨rfl, m3, rfl⟩
          go_wp2_with fail
          go_roundw
          case rel =>
            refine ⟨i + 1, _, _, U, t0, t1, T, by omega, by go_num, rfl, ?_, HF', ⟨⟨(hI.out.1.1.mono HOK.out.2.2.merge), (hI.out.1.2.1.mono HOK.out.2.2.merge), HOK.out.2.1⟩, ⟨hI.out.2.1, hI.out.2.2.1, HRS.out⟩⟩, ?_, ?_⟩
            · have hoF := HO67.out
              refine ⟨g6, _, Own.row (g := g6) ?_ HOK.out.1.len (Nat.le_refl _) ?_, by omega, Nat.le_refl _, .inl (by omega)⟩
              · (repeat refine Own.setOther ?_ (by assumption) _); exact hoF
              · simpa using hoF.1
            · exact ((((((((((HL7.out.set 20 (.int .i64 (T.k : Int))).set 21 (.int .i64 (T.x : Int))).set 22 (.int .i64 (T.y : Int))).set 23 (.int .i64 (T.st : Int))).set 24 (.int .i64 (T.u : Int))).set 25 (.int .i64 (T.v : Int))).set 26 (.int .i64 (T.w : Int))).set 27 (.int .i64 (T.r : Int))).set 28 (.bool T.dn)).set 29 (.int .i64 (T.res : Int)))
            · have hbF : Below w2.heap.size w2 w7 := HB.out.trans (HB7.out.mono sr)
              (repeat refine Below.setCell ?_ (by assumption) _)
              exact below_drewN' hbF _
          case measure => simp [intOf]; omega
      · obtain rfl : i = l6 := by omega
        go_wp2_with fail
        refine (awake_any _).mono ?_
        rintro e w9 ⟨rfl, hb9⟩
        go_wp2_with fail
        go_ret
        exact ⟨rfl, HB2.out.trans ((hb.mono sw2).trans (hb9.mono (by omega)))⟩

set_option maxRecDepth 100000 in
set_option maxHeartbeats 4000000 in
theorem steps_law (a1 a2 a3 a4 a5 a6 : Option Addr) (l1 l2 l3 l4 l5 l6 c1 c2 c3 c4 c5 c6 : Nat) (x1 x2 x3 x4 x5 x6 : List Nat) (w : World)
    (h1 : RowY 0 w.heap.size w a1 l1 x1) (h2 : RowY 0 w.heap.size w a2 l2 x2) (h3 : RowY 0 w.heap.size w a3 l3 x3) (h4 : RowY 0 w.heap.size w a4 l4 x4) (h5 : RowY 0 w.heap.size w a5 l5 x5) (h6 : RowY 0 w.heap.size w a6 l6 x6)
    (b1 : ∀ i, i < l1 → x1.getD i 0 ≤ 255) (b2 : ∀ i, i < l2 → x2.getD i 0 ≤ 255) (b3 : ∀ i, i < l3 → x3.getD i 0 ≤ 255) (b4 : ∀ i, i < l4 → x4.getD i 0 ≤ 255) (b5 : ∀ i, i < l5 → x5.getD i 0 ≤ 255) (b6 : ∀ i, i < l6 → x6.getD i 0 ≤ 255) (m2 : l2 ≤ 9223372036854775807) :
    Calls Try.prog 4 #[.slice a1 l1 c1, .slice a2 l2 c2, .slice a3 l3 c3, .slice a4 l4 c4, .slice a5 l5 c5, .slice a6 l6 c6] w fun e w' => e = .returned (.bool true) ∧ Below w.heap.size w w' := by
  have H1 := Lib.hid h1
  have H2 := Lib.hid h2
  have H3 := Lib.hid h3
  have H4 := Lib.hid h4
  have H5 := Lib.hid h5
  have H6 := Lib.hid h6
  have B1 := Lib.hid b1
  have B2 := Lib.hid b2
  have B3 := Lib.hid b3
  have B4 := Lib.hid b4
  have B5 := Lib.hid b5
  have B6 := Lib.hid b6
  clear h1 h2 h3 h4 h5 h6 b1 b2 b3 b4 b5 b6
  by_cases g1 : 60 < l1
  · go_enter Try.func4, Try.ntmps4
    go_wp2_with fail
    refine (awake_any _).mono ?_
    rintro e w1 ⟨rfl, hb⟩
    go_wp2_with fail
    go_ret
    exact ⟨rfl, hb⟩
  · by_cases g2 : l3 < 3
    · go_enter Try.func4, Try.ntmps4
      go_wp2_with fail
      refine (awake_any _).mono ?_
      rintro e w1 ⟨rfl, hb⟩
      go_wp2_with fail
      go_ret
      exact ⟨rfl, hb⟩
    · by_cases g3 : l4 < 3
      · go_enter Try.func4, Try.ntmps4
        go_wp2_with fail
        refine (awake_any _).mono ?_
        rintro e w1 ⟨rfl, hb⟩
        go_wp2_with fail
        go_ret
        exact ⟨rfl, hb⟩
      · by_cases g4 : l5 < 3
        · go_enter Try.func4, Try.ntmps4
          go_wp2_with fail
          refine (awake_any _).mono ?_
          rintro e w1 ⟨rfl, hb⟩
          go_wp2_with fail
          go_ret
          exact ⟨rfl, hb⟩
        · by_cases g5 : 100 < l6
          · go_enter Try.func4, Try.ntmps4
            go_wp2_with fail
            refine (awake_any _).mono ?_
            rintro e w1 ⟨rfl, hb⟩
            go_wp2_with fail
            go_ret
            exact ⟨rfl, hb⟩
          · exact steps_main a1 a2 a3 a4 a5 a6 l1 l2 l3 l4 l5 l6 c1 c2 c3 c4 c5 c6 x1 x2 x3 x4 x5 x6 w H1 H2 H3 H4 H5 H6 B1 B2 B3 B4 B5 B6 m2 g1 g2 g3 g4 g5

end Go.Proofs.Ytigcddafiaadiaa
