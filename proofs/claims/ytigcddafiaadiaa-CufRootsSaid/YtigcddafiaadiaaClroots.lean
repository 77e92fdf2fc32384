/- The walk of the law CufRoots: it returns true and changes nothing that was there. -/
import Derived.Test.YtigcddafiaadiaaClalone
import Derived.Deep.AppendLies
namespace Go.Proofs.Ytigcddafiaadiaa
open Go.RowKit
set_option linter.unusedVariables false
set_option linter.unusedSimpArgs false

theorem Try.taskInfo : (Try.prog.info? 27).map (fun i => (i.zero, i.size, i.bytes)) = some (some (.agg #[.int .i64 0, .int .i64 0, .int .i64 0, .int .i64 0, .int .i64 0, .int .i64 0, .int .i64 0, .int .i64 0, .bool false, .int .i64 0]), 10, 80) := by kernel_rfl

/-- Tasks, one behind another. -/
def cellsT (ts : List Tk) : List Value := ts.flatMap Tk.cells
theorem cellsT_length : ∀ ts : List Tk, (cellsT ts).length = ts.length * 10
  | [] => rfl
  | t :: r => by have := cellsT_length r; unfold cellsT at *; rw [List.flatMap_cons, List.length_append, this]; simp [Tk.cells]; omega
theorem cellsT_snoc (ts : List Tk) (t : Tk) : cellsT (ts ++ [t]) = cellsT ts ++ t.cells := by
  unfold cellsT; simp [List.flatMap_append]
theorem cellsT_at : ∀ (ts : List Tk) (k : Nat) (t : Tk), ts[k]? = some t → ∀ j, j < 10 → (cellsT ts)[k * 10 + j]? = t.cells[j]?
  | q :: r, 0, t, h, j, hj => by
    simp at h; subst h
    unfold cellsT
    rw [List.flatMap_cons, List.getElem?_append_left (by simp [Tk.cells]; omega)]
    simp
  | q :: r, k + 1, t, h, j, hj => by
    have ih := cellsT_at r k t (by simpa using h) j hj
    unfold cellsT at *
    rw [List.flatMap_cons, List.getElem?_append_right (by simp [Tk.cells]; omega), ← ih]
    congr 1
    simp [Tk.cells]; omega
theorem cellsT_set : ∀ (ts : List Tk) (k : Nat) (T : Tk), k < ts.length →
    ((((((((((cellsT ts).set (k * 10) (.int .i64 (T.k : Int))).set (k * 10 + 1) (.int .i64 (T.x : Int))).set (k * 10 + 2) (.int .i64 (T.y : Int))).set (k * 10 + 3) (.int .i64 (T.st : Int))).set (k * 10 + 4) (.int .i64 (T.u : Int))).set (k * 10 + 5) (.int .i64 (T.v : Int))).set (k * 10 + 6) (.int .i64 (T.w : Int))).set (k * 10 + 7) (.int .i64 (T.r : Int))).set (k * 10 + 8) (.bool T.dn)).set (k * 10 + 9) (.int .i64 (T.res : Int)) = cellsT (ts.set k T)
  | q :: r, 0, T, h => by
    obtain ⟨_, _, _, _, _, _, _, _, _, _⟩ := q
    unfold cellsT
    simp [List.flatMap_cons, Tk.cells]
  | q :: r, k + 1, T, h => by
    have ih := cellsT_set r k T (by simpa using h)
    obtain ⟨_, _, _, _, _, _, _, _, _, _⟩ := q
    have e : (k + 1) * 10 = k * 10 + 1 + 1 + 1 + 1 + 1 + 1 + 1 + 1 + 1 + 1 := by omega
    unfold cellsT at *
    rw [List.set_cons_succ, List.flatMap_cons, List.flatMap_cons, ← ih, e]
    simp [Tk.cells]
theorem cellsT_cell {w : World} {base lb n cap : Nat} {e : TypeId} {ts : List Tk} {k : Nat} {t : Tk} (h : w.ownsRow base e 10 (.slice (some ⟨lb, 0, none⟩) n cap) n (cellsT ts)) (hl : ts.length = n) (hk : k < n) (ht : ts[k]? = some t) (j : Nat) {v : Value} (hv : t.cells[j]? = some v) : w.cell? ⟨lb, k * 10 + j, none⟩ = some v := by
  have hj : j < 10 := by
    have := (List.getElem?_eq_some_iff.1 hv).1
    simpa [Tk.cells] using this
  rw [h.cellAt (k * 10 + j) (by omega), cellsT_at ts k t ht j hj, hv]

/-- A task that the call made. -/
def OneTask (wr : World) (cs : List Value) (s14 s15 : Value) (wx : World) : Prop := ∃ tb, s14 = .pointer (some ⟨tb, 0, none⟩) ∧ s15 = .bool true ∧ wr.heap.size ≤ tb ∧ Hid (Box wx tb 27 cs) ∧ Below wr.heap.size wr wx
theorem below_set10 {B b : Nat} {w wz : World} {v0 v1 v2 v3 v4 v5 v6 v7 v8 v9 : Value} (h : Below B w wz) (hb : B ≤ b) : Below B w ((((((((((wz.setCell ⟨b, 0, none⟩ v0).setCell ⟨b, 1, none⟩ v1).setCell ⟨b, 2, none⟩ v2).setCell ⟨b, 3, none⟩ v3).setCell ⟨b, 4, none⟩ v4).setCell ⟨b, 5, none⟩ v5).setCell ⟨b, 6, none⟩ v6).setCell ⟨b, 7, none⟩ v7).setCell ⟨b, 8, none⟩ v8).setCell ⟨b, 9, none⟩ v9) := ((((((((((h.setCell (p := ⟨b, 0, none⟩) hb v0).setCell (p := ⟨b, 1, none⟩) hb v1).setCell (p := ⟨b, 2, none⟩) hb v2).setCell (p := ⟨b, 3, none⟩) hb v3).setCell (p := ⟨b, 4, none⟩) hb v4).setCell (p := ⟨b, 5, none⟩) hb v5).setCell (p := ⟨b, 6, none⟩) hb v6).setCell (p := ⟨b, 7, none⟩) hb v7).setCell (p := ⟨b, 8, none⟩) hb v8).setCell (p := ⟨b, 9, none⟩) hb v9)
theorem oneTask_set {wr wz : World} {b : Nat} {cs : List Value} {v0 v1 v2 v3 v4 v5 v6 v7 v8 v9 z0 z1 z2 z3 z4 z5 z6 z7 z8 z9 : Value} (h : Box wz b 27 [z0, z1, z2, z3, z4, z5, z6, z7, z8, z9]) (hb : wr.heap.size ≤ b) (hB : Below wr.heap.size wr wz) (hc : cs = [v0, v1, v2, v3, v4, v5, v6, v7, v8, v9]) : OneTask wr cs (.pointer (some ⟨b, 0, none⟩)) (.bool true) ((((((((((wz.setCell ⟨b, 0, none⟩ v0).setCell ⟨b, 1, none⟩ v1).setCell ⟨b, 2, none⟩ v2).setCell ⟨b, 3, none⟩ v3).setCell ⟨b, 4, none⟩ v4).setCell ⟨b, 5, none⟩ v5).setCell ⟨b, 6, none⟩ v6).setCell ⟨b, 7, none⟩ v7).setCell ⟨b, 8, none⟩ v8).setCell ⟨b, 9, none⟩ v9) :=
  ⟨b, rfl, rfl, hb, by rw [hc]; exact ((((((((((h.set 0 v0).set 1 v1).set 2 v2).set 3 v3).set 4 v4).set 5 v5).set 6 v6).set 7 v7).set 8 v8).set 9 v9), below_set10 hB hb⟩
theorem oneTask_new {wr wz : World} {cs : List Value} {ar : Array Value} (hB : Below wr.heap.size wr wz) (ha : ar = cs.toArray) : OneTask wr cs (.pointer (some ⟨wz.heap.size, 0, none⟩)) (.bool true) (wz.alloc (.cells ar 27)) := by
  subst ha
  exact ⟨wz.heap.size, rfl, rfl, hB.size, Box.new wz _ _, below_alloc hB (Nat.le_refl _) _⟩

/-- What roots a step leaves. -/
theorem did_roots {n : Nat} {pr : List Int} {up U : List Nat} {t T : Tk} (F : For n pr up) (D : Did n up U t T) : ∃ a, a ≤ n ∧ (a < n → el up a = a) ∧ (a < n ↔ (t.st = 8 ∧ t.dn = false ∧ T.dn = true)) ∧ ∀ z, z < n → (el U z = z ↔ (el up z = z ∧ z ≠ a)) := by
  rcases D with ⟨hn, h⟩ | ⟨hy, a, b, h⟩
  · exact ⟨n, Nat.le_refl _, fun h => absurd h (by omega), ⟨fun h => absurd h (by omega), fun h => absurd h hn⟩, fun z hz => ⟨fun e => ⟨(h z hz).1.1 e, by omega⟩, fun e => (h z hz).1.2 e.1⟩⟩
  · refine ⟨a, Nat.le_of_lt h.an, fun _ => h.was, ⟨fun _ => hy, fun _ => h.an⟩, fun z hz => ?_⟩
    by_cases e : z = a
    · subst e
      exact ⟨fun q => absurd q h.is, fun q => absurd rfl q.2⟩
    · rw [h.oth z e]
      exact ⟨fun q => ⟨q, e⟩, fun q => q.1⟩

set_option maxRecDepth 100000 in
set_option maxHeartbeats 8000000 in
theorem roots_main (a1 a2 a3 a4 : Option Addr) (l1 l2 l3 l4 c1 c2 c3 c4 : Nat) (x1 x2 x3 x4 : List Nat) (w : World)
    (H1 : Hid (RowY 0 w.heap.size w a1 l1 x1)) (H2 : Hid (RowY 0 w.heap.size w a2 l2 x2)) (H3 : Hid (RowY 0 w.heap.size w a3 l3 x3)) (H4 : Hid (RowY 0 w.heap.size w a4 l4 x4)) (B1 : Hid (∀ i, i < l1 → x1.getD i 0 ≤ 255)) (B2 : Hid (∀ i, i < l2 → x2.getD i 0 ≤ 255)) (B3 : Hid (∀ i, i < l3 → x3.getD i 0 ≤ 255)) (B4 : Hid (∀ i, i < l4 → x4.getD i 0 ≤ 255)) (m2 : l2 ≤ 9223372036854775807)
    (g1 : ¬ 60 < l1) (g3 : ¬ l3 < 12) (g4 : ¬ 100 < l4) :
    Calls Try.prog 6 #[.slice a1 l1 c1, .slice a2 l2 c2, .slice a3 l3 c3, .slice a4 l4 c4] w fun e w' => e = .returned (.bool true) ∧ Below w.heap.size w w' := by
  obtain ⟨i0, hi0, hz0, hz1, hz2⟩ := info_parts Try.taskInfo
  obtain ⟨n, hn⟩ : ∃ n : Nat, (2 : Int) + (l2 : Int) % 14 = (n : Int) := ⟨2 + l2 % 14, by omega⟩
  have hn0 : 0 < n := by omega
  have hn1 : n ≤ 16 := by omega
  obtain ⟨p3, o3, rfl, hp3, k3⟩ := three_bytes H3.out (by omega)
  have HK3 := Lib.hid k3
  clear k3
  go_enter Try.func6, Try.ntmps6
  go_wp2_with fail
  clear hn
  refine (prio_any a2 l2 c2 x2 n _ H2.out B2.out (Nat.le_refl _) m2 (by omega)).mono ?_
  rintro e w1 ⟨gp, pr, rfl, hgp, hrp, hb1⟩
  have s1 := hb1.size
  go_wp2_with fail
  refine (cells_any a1 (some ⟨gp, 0, none⟩) l1 c1 n n x1 pr _ (H1.out.below hb1 (Nat.le_refl _)) B1.out s1 (by omega) hrp (Nat.le_refl _) hn0 (by omega)).mono ?_
  rintro e w2 ⟨a7, c7, up0, rfl, hr2, hF2, hb2⟩
  have s2 := hb2.size
  have HB2 : Hid (Below w.heap.size w w2) := hb1.trans (hb2.mono s1)
  have HRP : Hid (Row w.heap.size w1.heap.size w2 (some ⟨gp, 0, none⟩) n pr) := hrp.below hb2 (Nat.le_refl _)
  have HR2 := Lib.hid hr2
  have sw2 := HB2.out.size
  clear hb1 hb2 hrp hr2 H1 H2 B1 B2
  go_wp2_with fail
  go_loopw [12, 13] (fun lv iv wr => ∃ (i : Nat) (ts : List Tk), i ≤ 4 ∧ iv = .int .i64 (i : Int) ∧ wr.ownsRow w2.heap.size 27 10 lv i (cellsT ts) ∧ Hid (ts.length = i ∧ ∀ t ∈ ts, Inv n pr up0 t) ∧ Below w2.heap.size w2 wr) (fun _ iv _ => 4 - (intOf iv).toNat)
  case atStart => exact ⟨0, [], by omega, rfl, World.ownsRow_nil _ _ _ _, ⟨rfl, fun t ht => absurd ht (by simp)⟩, Below.refl _ _⟩
  case round =>
    obtain ⟨i, ts, hi, rfl, hown, hts, hb⟩ := hrel
    have sr := hb.size
    by_cases hlt : i < 4
    ·
      obtain ⟨j, hj⟩ : ∃ j, j = i * 3 := ⟨_, rfl⟩
      have dz0 := ((HB2.out.trans (hb.mono sw2)).cell (p := ⟨p3, o3 + j, none⟩) hp3).trans (HK3.out j (by omega))
      have ez0 := B3.out j (by omega)
      generalize x3.getD j 0 = z0 at dz0 ez0
      have dz1 := ((HB2.out.trans (hb.mono sw2)).cell (p := ⟨p3, o3 + (j + 1), none⟩) hp3).trans (HK3.out (j + 1) (by omega))
      have ez1 := B3.out (j + 1) (by omega)
      generalize x3.getD (j + 1) 0 = z1 at dz1 ez1
      have dz2 := ((HB2.out.trans (hb.mono sw2)).cell (p := ⟨p3, o3 + (j + 2), none⟩) hp3).trans (HK3.out (j + 2) (by omega))
      have ez2 := B3.out (j + 2) (by omega)
      generalize x3.getD (j + 2) 0 = z2 at dz2 ez2
      obtain ⟨K, hK⟩ : ∃ A : Nat, 1 + z0 % 3 = A := ⟨_, rfl⟩
      obtain ⟨X, hX⟩ : ∃ A : Nat, z1 % n = A := ⟨_, rfl⟩
      obtain ⟨Y, hY⟩ : ∃ A : Nat, z2 % n = A := ⟨_, rfl⟩
      have HO : Hid (okO n (K, X, Y)) := by
        have := Nat.mod_lt z1 hn0
        have := Nat.mod_lt z2 hn0
        exact ⟨by show 1 ≤ K; omega, by show K ≤ 3; omega, by show X < n; omega, by show Y < n; omega⟩
      have HP0 : Hid (∀ w', Calls Try.prog 17 #[.int .u8 (z0 : Int), .int .u8 (z1 : Int), .int .u8 (z2 : Int), .int .i64 (n : Int)] w' fun e w'' => e = .returned (.agg #[.int .i64 (K : Int), .int .i64 (X : Int), .int .i64 (Y : Int)]) ∧ Below w'.heap.size w' w'') := fun w' => op_v z0 z1 z2 n K X Y w' hn0 (by omega) ez0 ez1 ez2 hK hX hY
      have HG0 := Lib.hid (fun w' => begin_t n K X Y w' HO.out)
      have HK : Hid (∀ w', Below wr.heap.size wr w' → (Below wr.heap.size wr w' ∧ w'.cell? ⟨p3, o3 + j, none⟩ = some (.int .u8 (z0 : Int)) ∧ w'.cell? ⟨p3, o3 + (j + 1), none⟩ = some (.int .u8 (z1 : Int)) ∧ w'.cell? ⟨p3, o3 + (j + 2), none⟩ = some (.int .u8 (z2 : Int)))) := fun w' h => ⟨h, (h.cell (p := ⟨p3, o3 + j, none⟩) (show p3 < _ by omega)).trans dz0, (h.cell (p := ⟨p3, o3 + (j + 1), none⟩) (show p3 < _ by omega)).trans dz1, (h.cell (p := ⟨p3, o3 + (j + 2), none⟩) (show p3 < _ by omega)).trans dz2⟩
      clear dz0 dz1 dz2 ez0 ez1 ez2 hK hX hY
      have HOWN := Lib.hid hown
      have HBW := Lib.hid hb
      have hil : (i : Int) < 4 := by omega
      have hj0 : (0 : Int) ≤ (j : Int) := by omega
      have hj1 : (j : Int) < (l3 : Int) := by omega
      have hj2 : (0 : Int) ≤ (j : Int) + 1 := by omega
      have hj3 : (j : Int) + 1 < (l3 : Int) := by omega
      have hj4 : (0 : Int) ≤ (j : Int) + 2 := by omega
      have hj5 : (j : Int) + 2 < (l3 : Int) := by omega
      have hj6 : j < l3 := by omega
      have hj7 : j + 1 < l3 := by omega
      have hj8 : j + 2 < l3 := by omega
      have HI4 := Lib.hid hlt
      have q0 : (3 : Int) * (i : Int) = (j : Int) := by omega
      have w0 : IntKind.i64.wrap (j : Int) = (j : Int) := IntWalk.i64_in _ (by omega)
      have w1 : IntKind.i64.wrap ((j : Int) + 1) = (j : Int) + 1 := IntWalk.i64_in _ (by omega)
      have w2' : ((j : Int) + 1).toNat = j + 1 := by omega
      have w3 : IntKind.i64.wrap ((j : Int) + 2) = (j : Int) + 2 := IntWalk.i64_in _ (by omega)
      have w4 : ((j : Int) + 2).toNat = j + 2 := by omega
      have HJ := Lib.hid hj
      clear hown hb hj hlt
      go_upto_region 10 with fail
      go_cut [14, 15] from 47 to 80 (fun s14 s15 wx => OneTask wr (Tk.mk K X Y 1 X Y 0 0 false 0).cells s14 s15 wx)
      case first =>
        go_region_held3 (fun w' => Below wr.heap.size wr w' ∧ w'.cell? ⟨p3, o3 + j, none⟩ = some (.int .u8 (z0 : Int)) ∧ w'.cell? ⟨p3, o3 + (j + 1), none⟩ = some (.int .u8 (z1 : Int)) ∧ w'.cell? ⟨p3, o3 + (j + 2), none⟩ = some (.int .u8 (z2 : Int)))
          ((with_reducible apply HK.out
            first
            | ((with_reducible apply Below.drew); (with_reducible exact Below.refl _ _))
            | (with_reducible apply below_next (And.left (by assumption)) hbo (Nat.le_refl _))
            | (with_reducible apply below_next (And.left (by assumption)) hbz (Nat.le_refl _))
            | ((with_reducible apply below_alloc (And.left (by assumption)) (Nat.le_refl _)))
            | ((with_reducible apply below_alloc HBz.out (Nat.le_refl _)))
            | ((with_reducible apply below_set10 HBz.out); first | exact Nat.le_refl _ | assumption)
            | ((with_reducible apply Below.drew); (with_reducible apply below_alloc (Below.refl _ _) (Nat.le_refl _)))))
          (first
            | (go_at_call 17; (with_reducible refine (HP0.out _).mono ?_); rintro e wo ⟨rfl, hbo⟩; have kwo : wr.heap.size ≤ wo.heap.size := (below_next (And.left (by assumption)) hbo (Nat.le_refl _)).size; (try (have hbt := Box.below (Box.new wr 27 [.int .i64 0, .int .i64 0, .int .i64 0, .int .i64 0, .int .i64 0, .int .i64 0, .int .i64 0, .int .i64 0, .bool false, .int .i64 0]).drew hbo; have HBT := Lib.hid hbt; clear hbt)))
            | (go_at_call 9; (with_reducible refine (HG0.out _).mono ?_); rintro e wz ⟨rfl, hbz⟩; have HBz : Hid (Below wr.heap.size wr wz) := Lib.hid (below_next (And.left (by assumption)) hbz (Nat.le_refl _)); (try (first | have hbt := HBT.out.below hbz | have hbt := Box.below (Box.new wo 27 [.int .i64 0, .int .i64 0, .int .i64 0, .int .i64 0, .int .i64 0, .int .i64 0, .int .i64 0, .int .i64 0, .bool false, .int .i64 0]) hbz)); (try (obtain ⟨_, _, _, _, _, _, _, _, _, _⟩ := Box.ten hbt; have fz0 := hbt.frozen 0; have fz1 := hbt.frozen 1; have fz2 := hbt.frozen 2; have fz3 := hbt.frozen 3; have fz4 := hbt.frozen 4; have fz5 := hbt.frozen 5; have fz6 := hbt.frozen 6; have fz7 := hbt.frozen 7; have fz8 := hbt.frozen 8; have fz9 := hbt.frozen 9; have HBU := Lib.hid hbt; clear hbt)))
            | fail)
        all_goals (go_wp2_with fail; go_meet)
        · (with_reducible apply oneTask_new HBz.out)
          rfl
        · (with_reducible apply oneTask_set HBU.out kwo HBz.out)
          rfl
        · (with_reducible apply oneTask_set HBU.out (Nat.le_refl _) HBz.out)
          rfl
      case rest =>
      obtain ⟨tb, rfl, rfl, htb, HBX, hbe⟩ := hcut
      clear w0 w1 w2' w3 w4 q0
      have hbx := HBX.out
      have hse : tb < wc.heap.size := HBX.out.lt
      have s5 := hbe.size
      have HBE := Lib.hid hbe
      obtain ⟨_, _, _, _, _, _, _, _, _, _⟩ := Box.ten hbx
      have HO5 := Lib.hid (ownsRow_below HOWN.out hbe)
      have HV : Hid (∀ q, u12.ownBlock = some q → w2.heap.size ≤ q) := fun q hq => (HOWN.out.lt q hq).1
      have HNEWS : Hid (∀ (W : World) (q : Nat) (u : Value), (Tk.mk K X Y 1 X Y 0 0 false 0).cells[q]? = some u → (W.alloc (.cells #[.int .i64 (K : Int), .int .i64 (X : Int), .int .i64 (Y : Int), .int .i64 1, .int .i64 (X : Int), .int .i64 (Y : Int), .int .i64 0, .int .i64 0, .bool false, .int .i64 0] 27)).cell? (Addr.add ⟨W.heap.size, 0, none⟩ q) = some u) := fun W q u hq =>
        World.news_of_block (w := W.alloc (.cells #[.int .i64 (K : Int), .int .i64 (X : Int), .int .i64 (Y : Int), .int .i64 1, .int .i64 (X : Int), .int .i64 (Y : Int), .int .i64 0, .int .i64 0, .bool false, .int .i64 0] 27)) (B := W.heap.size) (cs := (Tk.mk K X Y 1 X Y 0 0 false 0).cells.toArray) (Box.new W 27 (Tk.mk K X Y 1 X Y 0 0 false 0).cells) q u (by simpa using hq)
      clear hbe hbx HK HP0 HG0
      go_wp2_with (at_builtin; refine wpList_append_lies _ rfl _ _ 40 rfl w2.heap.size 27 i0 (.agg #[.int .i64 0, .int .i64 0, .int .i64 0, .int .i64 0, .int .i64 0, .int .i64 0, .int .i64 0, .int .i64 0, .bool false, .int .i64 0]) 10 80 Try.underlying40 hi0 hz0 hz1 hz2 rfl (by decide) _ i (cellsT ts) rfl (HO5.out.alloc _) ⟨wc.heap.size, 0, none⟩ 1 1 (Tk.mk K X Y 1 X Y 0 0 false 0).cells rfl rfl (HNEWS.out wc) (Tk.one _) (by decide) ?c3 ?c4 ?c5 _ rfl ?_)
      case c3 => unfold maxLen; omega
      case c4 => omega
      case c5 => first | omega | (simp; omega) | (have := HBE.out.size; simp; omega)
      intro g cap w9 hown9 hgrow hat hlt9
      have hb9 : Below w2.heap.size w2 w9 := ((HBW.out.trans (HBE.out.mono sr)).alloc (by omega) _).grown hgrow (by simp; omega) HV.out
      have e9 : cellsT ts ++ (Tk.mk K X Y 1 X Y 0 0 false 0).cells = cellsT (ts ++ [Tk.mk K X Y 1 X Y 0 0 false 0]) := (cellsT_snoc _ _).symm
      rw [e9] at hown9
      clear hgrow hat e9
      go_wp2_with fail
      go_roundw
      case rel =>
        refine ⟨i + 1, _, by have := HI4.out; omega, by go_num, hown9, ⟨by simp [hts.out.1], fun t ht => ?_⟩, hb9⟩
        rcases List.mem_append.1 ht with h | h
        · exact hts.out.2 t h
        · simp at h; subst h
          exact inv_new HO.out.1 HO.out.2.1 HO.out.2.2.1 HO.out.2.2.2
      case measure => have := HI4.out; simp [intOf]; omega
    · obtain ⟨N4, hN4⟩ : ∃ N : Nat, N = i := ⟨_, rfl⟩
      subst hN4
      have HN4 : Hid (N4 = 4) := (by omega : N4 = 4)
      obtain ⟨lb, cap, rfl, hlbw⟩ : ∃ lb cap, u12 = .slice (some ⟨lb, 0, none⟩) N4 cap ∧ w2.heap.size ≤ lb ∧ lb < wr.heap.size := by
        obtain ⟨g, cap, e, h1, h2⟩ := hown.form (by have := HN4.out; omega)
        exact ⟨g, cap, e, h1, h2⟩
      obtain ⟨hlb, hlw⟩ := hlbw
      have HR3 := Lib.hid (HR2.out.below hb (Nat.le_refl _))
      have HL0 := Lib.hid hown
      have HI0 : Hid (ts.length = N4 ∧ ∀ t ∈ ts, Inv n pr up0 t) := hts
      have HBC := Lib.hid hb
      clear hown hb hts HK3 H3 B3 hi
      go_wp2_with fail
      go_loopw [11, 16] (fun uv iv wr => ∃ (i : Nat) (a' : Option Addr) (c : Nat) (up : List Nat) (ts : List Tk), i ≤ l4 ∧ iv = .int .i64 (i : Int) ∧ uv = .slice a' n c ∧ Hid (∃ lo hi, RowN lo hi wr a' n up ∧ hi ≤ wr.heap.size ∧ (lb < lo ∨ hi ≤ lb)) ∧ Hid (For n pr up) ∧ Hid (ts.length = N4 ∧ ∀ t ∈ ts, Inv n pr up t) ∧ Hid (wr.ownsRow w2.heap.size 27 10 (.slice (some ⟨lb, 0, none⟩) N4 cap) N4 (cellsT ts)) ∧ Below w2.heap.size w2 wr) (fun _ iv _ => l4 - (intOf iv).toNat)
      case atStart => exact ⟨0, a7, c7, up0, ts, Nat.zero_le _, rfl, rfl, ⟨_, _, HR3.out, sr, .inr hlb⟩, hF2, HI0, HL0, HBC.out⟩
      case round =>
        clear HR3 HI0 HL0 HBC hlw sr hF2
        obtain ⟨i, a', c, up, ts, hi, rfl, rfl, hr, hF, hI, HL, hb⟩ := hrel
        have sr := hb.size
        by_cases hlt : i < l4
        · obtain ⟨p6, o6, rfl, _, hp6, hc6⟩ := H4.out.2.resolve_left (by omega)
          have ct := ((HB2.out.trans (hb.mono sw2)).cell (p := ⟨p6, o6 + i, none⟩) hp6).trans (hc6 i hlt)
          have HRPr := Lib.hid (HRP.out.below hb (by omega))
          have hyb := B4.out i hlt
          generalize x4.getD i 0 = y at *
          have hlw : lb < wr.heap.size := (HL.out.lt lb rfl).2
          have hp6w : p6 < wr.heap.size := by omega
          have hi0' : (0 : Int) ≤ i := by omega
          have hi1' : (i : Int) < l4 := by omega
          obtain ⟨l5, h5, hr5, hh5, hap⟩ := hr.out
          obtain ⟨bu, ou, rfl, _, hbu, hcu⟩ := hr5.at_ hn0
          have HRU := Lib.hid hr5
          have HCU := Lib.hid hcu
          have HB := Lib.hid hb
          clear hc6 hb hr5 hcu
          obtain ⟨k, hk⟩ : ∃ k : Nat, (y : Int) % 4 = (k : Int) := ⟨y % 4, by omega⟩
          have hk4 : k < N4 := by have := HN4.out; omega
          have hk40 : (0 : Int) ≤ (k : Int) := by omega
          have hk41 : (k : Int) < (N4 : Int) := by omega
          obtain ⟨t, htk⟩ : ∃ t, ts[k]? = some t := ⟨_, List.getElem?_eq_getElem (by have := hI.out.1; omega)⟩
          have hlk := hI.out.1
          have hIt : Inv n pr up t := hI.out.2 t (List.mem_of_getElem? htk)
          have d0 : wr.cell? ⟨lb, k * 10, none⟩ = some (.int .i64 (t.k : Int)) := cellsT_cell HL.out (t := t) hlk hk4 htk 0 rfl
          have d1 : wr.cell? ⟨lb, k * 10 + 1, none⟩ = some (.int .i64 (t.x : Int)) := cellsT_cell HL.out (t := t) hlk hk4 htk 1 rfl
          have d2 : wr.cell? ⟨lb, k * 10 + 2, none⟩ = some (.int .i64 (t.y : Int)) := cellsT_cell HL.out (t := t) hlk hk4 htk 2 rfl
          have d3 : wr.cell? ⟨lb, k * 10 + 3, none⟩ = some (.int .i64 (t.st : Int)) := cellsT_cell HL.out (t := t) hlk hk4 htk 3 rfl
          have d4 : wr.cell? ⟨lb, k * 10 + 4, none⟩ = some (.int .i64 (t.u : Int)) := cellsT_cell HL.out (t := t) hlk hk4 htk 4 rfl
          have d5 : wr.cell? ⟨lb, k * 10 + 5, none⟩ = some (.int .i64 (t.v : Int)) := cellsT_cell HL.out (t := t) hlk hk4 htk 5 rfl
          have d6 : wr.cell? ⟨lb, k * 10 + 6, none⟩ = some (.int .i64 (t.w : Int)) := cellsT_cell HL.out (t := t) hlk hk4 htk 6 rfl
          have d7 : wr.cell? ⟨lb, k * 10 + 7, none⟩ = some (.int .i64 (t.r : Int)) := cellsT_cell HL.out (t := t) hlk hk4 htk 7 rfl
          have d8 : wr.cell? ⟨lb, k * 10 + 8, none⟩ = some (.bool t.dn) := cellsT_cell HL.out (t := t) hlk hk4 htk 8 rfl
          have d9 : wr.cell? ⟨lb, k * 10 + 9, none⟩ = some (.int .i64 (t.res : Int)) := cellsT_cell HL.out (t := t) hlk hk4 htk 9 rfl
          obtain ⟨T, hT⟩ : ∃ T, tks up pr t = T := ⟨_, rfl⟩
          obtain ⟨U, hU⟩ : ∃ U, ups up pr t = U := ⟨_, rfl⟩
          have ok := step_ok hF.out hIt
          rw [hT, hU] at ok
          have hst := step_t (some ⟨bu, ou, none⟩) (some ⟨gp, 0, none⟩) n c n pr up t wr hIt HRU.out hh5 HRPr.out (by omega) (by omega) T hT U hU
          have HST := Lib.hid hst
          have HOK := Lib.hid ok
          have HTK := Lib.hid htk
          have HIT := Lib.hid hIt
          have HLK := Lib.hid hlk
          have H1 := Lib.hid (Tk.one T)
          clear hT hU ok hst htk hIt hlk
          go_wp2_with fail
          refine (HST.out).mono ?_
          rintro e w6 ⟨g6, c6, rfl, hg6, ho6, hb6⟩
          have s6 := hb6.size
          have ho7 := ho6.alloc (.cells #[.int .i64 (T.k : Int), .int .i64 (T.x : Int), .int .i64 (T.y : Int), .int .i64 (T.st : Int), .int .i64 (T.u : Int), .int .i64 (T.v : Int), .int .i64 (T.w : Int), .int .i64 (T.r : Int), .bool T.dn, .int .i64 (T.res : Int)] 27)
          have hb7 := hb6.alloc s6 (.cells #[.int .i64 (T.k : Int), .int .i64 (T.x : Int), .int .i64 (T.y : Int), .int .i64 (T.st : Int), .int .i64 (T.u : Int), .int .i64 (T.v : Int), .int .i64 (T.w : Int), .int .i64 (T.r : Int), .bool T.dn, .int .i64 (T.res : Int)] 27)
          have hbx := Box.new w6 27 [.int .i64 (T.k : Int), .int .i64 (T.x : Int), .int .i64 (T.y : Int), .int .i64 (T.st : Int), .int .i64 (T.u : Int), .int .i64 (T.v : Int), .int .i64 (T.w : Int), .int .i64 (T.r : Int), .bool T.dn, .int .i64 (T.res : Int)]
          have hsz : (w6.alloc (.cells #[.int .i64 (T.k : Int), .int .i64 (T.x : Int), .int .i64 (T.y : Int), .int .i64 (T.st : Int), .int .i64 (T.u : Int), .int .i64 (T.v : Int), .int .i64 (T.w : Int), .int .i64 (T.r : Int), .bool T.dn, .int .i64 (T.res : Int)] 27)).heap.size = w6.heap.size + 1 := by simp
          clear hb6 ho6
          go_wp2_with fail
          simp only [List.toArray] at ho7 hb7 hbx hsz
          generalize w6.alloc (.cells #[.int .i64 (T.k : Int), .int .i64 (T.x : Int), .int .i64 (T.y : Int), .int .i64 (T.st : Int), .int .i64 (T.u : Int), .int .i64 (T.v : Int), .int .i64 (T.w : Int), .int .i64 (T.r : Int), .bool T.dn, .int .i64 (T.res : Int)] 27) = w7 at *
          have HO7 := Lib.hid ho7
          have HB7 := Lib.hid hb7
          have HX7 : Hid (Box w7 w6.heap.size 27 T.cells) := hbx
          have HRU7 := Lib.hid (HRU.out.below hb7 hh5)
          have HRP7 := Lib.hid (HRPr.out.below hb7 (by omega))
          have HL7 := Lib.hid (ownsRow_below HL.out hb7)
          have hlU := HOK.out.1.len
          have t7 : w6.heap.size < w7.heap.size := by omega
          have n7 : g6 ≠ lb := by omega
          have hgl : lb ≠ g6 := by omega
          have HOR : Hid (RowN 0 w7.heap.size w7 (some ⟨g6, 0, none⟩) n U) := HO7.out.row hlU (Nat.zero_le _) HO7.out.1
          clear ho7 hb7 hbx hlU d0 d1 d2 d3 d4 d5 d6 d7 d8 d9 HST
          refine (rmay_true _ _ n _ _ U pr _ HOK.out.1 HOR.out HRP7.out (by omega)).mono ?_
          rintro e w' ⟨rfl, m1, rfl⟩
          obtain ⟨a, ha, hwas, hwon, hroots⟩ := did_roots hF.out HOK.out.2.2
          have HCU7 : Hid (∀ z, z < n → (w7.drewN m1).cell? ⟨bu, ou + z, none⟩ = some (.int .i64 (el up z : Int))) := fun z hz => ((below_drewN' HB7.out m1).cell (p := ⟨bu, ou + z, none⟩) (show bu < wr.heap.size by omega)).trans (HCU.out z hz)
          have HCO7 : Hid (∀ z, z < n → (w7.drewN m1).cell? ⟨g6, z, none⟩ = some (.int .i64 (el U z : Int))) := fun z hz => ((HO7.out.drewN m1).2 z (by rw [HOK.out.1.len]; exact hz)).1
          have HRX : Hid (∀ z, z < n → Calls Try.prog 14 #[.slice (some ⟨g6, 0, none⟩) n c6, .int .i64 (z : Int)] (w7.drewN m1) fun e w' => e = .returned (.int .i64 (rtu U z : Nat)) ∧ w7.drewN m1 = w') := fun z hz => rroot_in _ n c6 pr U z _ HOK.out.1 (HOR.out.drewN' _) hz (by omega)
          have HRV : Hid (∀ z, z < n → Calls Try.prog 14 #[.slice (some ⟨bu, ou, none⟩) n c, .int .i64 (z : Int)] (w7.drewN m1) fun e w' => e = .returned (.int .i64 (rtu up z : Nat)) ∧ w7.drewN m1 = w') := fun z hz => rroot_in _ n c pr up z _ hF.out (HRU7.out.drewN' _) hz (by omega)
          have hs7 : (w7.drewN m1).heap.size = w7.heap.size := size_drewN' _ _
          have HO8 := Lib.hid (HO7.out.drewN m1)
          have HB8 := Lib.hid (below_drewN' HB7.out m1)
          have HL8 : Hid ((w7.drewN m1).ownsRow w2.heap.size 27 10 (.slice (some ⟨lb, 0, none⟩) N4 cap) N4 (cellsT ts)) := ownsRow_below HL7.out (below_drewN' (Below.refl _ _) m1)
          have HX8 : Hid (Box (w7.drewN m1) w6.heap.size 27 T.cells) := HX7.out.below (below_drewN' (Below.refl _ _) m1)
          clear HO7 HB7 HX7 HL7
          go_wp2_with fail
          generalize w7.drewN m1 = w8 at *
          have HROOTS := Lib.hid hroots
          have HWAS := Lib.hid hwas
          have HWON := Lib.hid hwon
          clear hroots hwas hwon
          have hbu7 : bu < w8.heap.size := by have := HB8.out.size; omega
          have hg67 : g6 < w8.heap.size := HO8.out.1
          go_loopw [20, 21] (fun rv jv wx => ∃ (z : Nat) (r : Int), z ≤ n ∧ jv = .int .i64 (z : Int) ∧ rv = .int .i64 r ∧ Hid (r = if a < z then -1 else 0) ∧ wx = w8) (fun _ jv _ => n - (intOf jv).toNat)
          case atStart => exact ⟨0, 0, Nat.zero_le _, rfl, rfl, (show (0 : Int) = if a < 0 then -1 else 0 by simp), by first | rfl | trivial⟩
          case round =>
            obtain ⟨z, r, hz, rfl, rfl, hrr, rfl⟩ := hrel
            have hr0 : -1 ≤ r := by have := hrr.out; split at this <;> omega
            have hr1 : r ≤ 0 := by have := hrr.out; split at this <;> omega
            by_cases hlz : z < n
            ·
              have c1 := HCO7.out z hlz
              have c2 := HCU7.out z hlz
              have hz0 : (0 : Int) ≤ (z : Int) := by omega
              have hz1 : (z : Int) < (n : Int) := by omega
              have hro := HROOTS.out z hlz
              obtain ⟨q, hq⟩ : ∃ q : Nat, rtu up z = q := ⟨_, rfl⟩
              have hqn : q < n := by rw [← hq]; exact (hF.out.rt_spec hlz).2
              obtain ⟨P, hP⟩ : ∃ P : Int, ((rtu U z : Nat) : Int) = P := ⟨_, rfl⟩
              have hP2 : ((rtu U q : Nat) : Int) = P := by rw [← hP, ← hq, HOK.out.2.2.idem hF.out hlz]
              have HC1 : Hid (Calls Try.prog 14 #[.slice (some ⟨g6, 0, none⟩) n c6, .int .i64 (z : Int)] wr fun e w' => e = .returned (.int .i64 P) ∧ wr = w') := by have := HRX.out z hlz; rwa [hP] at this
              have HC2 : Hid (Calls Try.prog 14 #[.slice (some ⟨bu, ou, none⟩) n c, .int .i64 (z : Int)] wr fun e w' => e = .returned (.int .i64 (q : Int)) ∧ wr = w') := by have := HRV.out z hlz; rwa [hq] at this
              have HC3 : Hid (Calls Try.prog 14 #[.slice (some ⟨g6, 0, none⟩) n c6, .int .i64 (q : Int)] wr fun e w' => e = .returned (.int .i64 P) ∧ wr = w') := by have := HRX.out q hqn; rwa [hP2] at this
              have bP : (P != P) = false := by simp
              obtain ⟨e1, he1⟩ : ∃ e : Int, (el U z : Int) = e := ⟨_, rfl⟩
              obtain ⟨e2, he2⟩ : ∃ e : Int, (el up z : Int) = e := ⟨_, rfl⟩
              have hra : el U z ≠ z → el up z = z → z = a := fun h1 h2 => by
                by_cases h3 : z = a
                · exact h3
                · exact absurd (hro.2 ⟨h2, h3⟩) h1
              have hrw : z = a → el up z = z := fun h => by have := HWAS.out (by omega); rw [h]; exact this
              have hx : ((e1 == (z : Int)) = true ∧ (e2 == (z : Int)) = true ∧ z ≠ a) ∨ ((e1 == (z : Int)) = false ∧ (e2 == (z : Int)) = true ∧ z = a) ∨ ((e1 == (z : Int)) = false ∧ (e2 == (z : Int)) = false ∧ z ≠ a) := by
                by_cases h1 : el U z = z
                · have h2 := hro.1 h1
                  exact .inl ⟨by simp; omega, by simp; omega, h2.2⟩
                · by_cases h2 : el up z = z
                  · exact .inr (.inl ⟨by simp; omega, by simp; omega, hra h1 h2⟩)
                  · exact .inr (.inr ⟨by simp; omega, by simp; omega, fun h => h2 (hrw h)⟩)
              rw [he1] at c1
              rw [he2] at c2
              have HRR := Lib.hid hrr.out
              clear hro hq hP hP2 he1 he2 hra hrw hqn hrr
              rcases hx with ⟨x1, x2, x3⟩ | ⟨x1, x2, x3⟩ | ⟨x1, x2, x3⟩
              · have HX3 := Lib.hid x3
                clear x3
                go_wp2_with (first
                  | (go_at_call 14; (with_reducible refine (HC1.out).mono ?_); rintro e w' ⟨rfl, rfl⟩)
                  | (go_at_call 14; (with_reducible refine (HC2.out).mono ?_); rintro e w' ⟨rfl, rfl⟩)
                  | (go_at_call 14; (with_reducible refine (HC3.out).mono ?_); rintro e w' ⟨rfl, rfl⟩))
                go_roundw
                case rel => exact ⟨z + 1, r + 1 - 1, by omega, by go_num, by go_num, (by have hA := HRR.out; have hB := HX3.out; show _ = if a < z + 1 then (-1 : Int) else 0; split at hA <;> split <;> omega), by first | rfl | trivial⟩
                case measure => simp [intOf]; omega
              · have HX3 := Lib.hid x3
                clear x3
                go_wp2_with (first
                  | (go_at_call 14; (with_reducible refine (HC1.out).mono ?_); rintro e w' ⟨rfl, rfl⟩)
                  | (go_at_call 14; (with_reducible refine (HC2.out).mono ?_); rintro e w' ⟨rfl, rfl⟩)
                  | (go_at_call 14; (with_reducible refine (HC3.out).mono ?_); rintro e w' ⟨rfl, rfl⟩))
                go_roundw
                case rel => exact ⟨z + 1, r - 1, by omega, by go_num, by go_num, (by have hA := HRR.out; have hB := HX3.out; show _ = if a < z + 1 then (-1 : Int) else 0; split at hA <;> split <;> omega), by first | rfl | trivial⟩
                case measure => simp [intOf]; omega
              · have HX3 := Lib.hid x3
                clear x3
                go_wp2_with (first
                  | (go_at_call 14; (with_reducible refine (HC1.out).mono ?_); rintro e w' ⟨rfl, rfl⟩)
                  | (go_at_call 14; (with_reducible refine (HC2.out).mono ?_); rintro e w' ⟨rfl, rfl⟩)
                  | (go_at_call 14; (with_reducible refine (HC3.out).mono ?_); rintro e w' ⟨rfl, rfl⟩))
                go_roundw
                case rel => exact ⟨z + 1, r, by omega, by go_num, by go_num, (by have hA := HRR.out; have hB := HX3.out; show _ = if a < z + 1 then (-1 : Int) else 0; split at hA <;> split <;> omega), by first | rfl | trivial⟩
                case measure => simp [intOf]; omega
            · obtain rfl : z = n := by omega
              have hfin : (r = -1 ∧ (t.st = 8 ∧ t.dn = false ∧ T.dn = true)) ∨ (r = 0 ∧ ¬ (t.st = 8 ∧ t.dn = false ∧ T.dn = true)) := by
                have h1 := hrr.out
                by_cases h : a < z
                · rw [if_pos h] at h1; exact .inl ⟨h1, HWON.out.1 h⟩
                · rw [if_neg h] at h1; exact .inr ⟨h1, fun q => h (HWON.out.2 q)⟩
              have d3 : wr.cell? ⟨lb, k * 10 + 3, none⟩ = some (.int .i64 (t.st : Int)) := cellsT_cell HL8.out (t := t) HLK.out hk4 HTK.out 3 rfl
              have d8 : wr.cell? ⟨lb, k * 10 + 8, none⟩ = some (.bool t.dn) := cellsT_cell HL8.out (t := t) HLK.out hk4 HTK.out 8 rfl
              have t8 : w6.heap.size < wr.heap.size := HX8.out.lt
              have l8 : lb < wr.heap.size := (HL8.out.lt lb rfl).2
              obtain ⟨y0, y1, y2, y3, y4, y5, y6, y7, y8, y9⟩ := Tk.ten HX8.out
              obtain ⟨wn, hwn, hwr⟩ : ∃ wn : Bool, (wn = decide (t.st = 8 ∧ t.dn = false ∧ T.dn = true)) ∧ ((wn = true ∧ r = -1) ∨ (wn = false ∧ r = 0)) := by
                rcases hfin with ⟨h1, h2⟩ | ⟨h1, h2⟩
                · exact ⟨true, by simp [h2], .inl ⟨rfl, h1⟩⟩
                · exact ⟨false, by simp [h2], .inr ⟨rfl, h1⟩⟩
              have HWR := Lib.hid hwr
              clear hfin hrr hr0 hr1 hwr
              go_upto_region 31 with fail
              go_cut [22] from 81 to 177 (fun s22 wx => s22 = .bool wn ∧ wr = wx)
              case first =>
                by_cases h1 : t.st = 8
                · have b1 : ((t.st : Int) == 8) = true := by simp; omega
                  by_cases h2 : t.dn = true
                  · rw [h2] at d8
                    have : wn = false := by rw [hwn]; simp [h2]
                    subst this
                    clear hwn
                    go_wp2_with fail
                    go_meet
                    exact ⟨rfl, rfl⟩
                  · have h2' : t.dn = false := by simpa using h2
                    rw [h2'] at d8
                    by_cases h3 : T.dn = true
                    · rw [h3] at y8
                      have : wn = true := by rw [hwn]; simp [h1, h2', h3]
                      subst this
                      clear hwn
                      go_wp2_with fail
                      go_meet
                      exact ⟨rfl, rfl⟩
                    · have h3' : T.dn = false := by simpa using h3
                      rw [h3'] at y8
                      have : wn = false := by rw [hwn]; simp [h3]
                      subst this
                      clear hwn
                      go_wp2_with fail
                      go_meet
                      exact ⟨rfl, rfl⟩
                · have b1 : ((t.st : Int) == 8) = false := by simp; omega
                  have : wn = false := by rw [hwn]; simp [h1]
                  subst this
                  clear hwn
                  go_wp2_with fail
                  go_meet
                  exact ⟨rfl, rfl⟩
              case rest =>
                obtain ⟨rfl, rfl⟩ := hcut
                clear d3 d8 hwn
                have d0 : wr.cell? ⟨lb, k * 10, none⟩ = some (.int .i64 (t.k : Int)) := cellsT_cell HL8.out (t := t) HLK.out hk4 HTK.out 0 rfl
                have f0 : wr.frozen? ⟨lb, k * 10, none⟩ = false := HL8.out.frozenAt _
                have d1 : wr.cell? ⟨lb, k * 10 + 1, none⟩ = some (.int .i64 (t.x : Int)) := cellsT_cell HL8.out (t := t) HLK.out hk4 HTK.out 1 rfl
                have f1 : wr.frozen? ⟨lb, k * 10 + 1, none⟩ = false := HL8.out.frozenAt _
                have d2 : wr.cell? ⟨lb, k * 10 + 2, none⟩ = some (.int .i64 (t.y : Int)) := cellsT_cell HL8.out (t := t) HLK.out hk4 HTK.out 2 rfl
                have f2 : wr.frozen? ⟨lb, k * 10 + 2, none⟩ = false := HL8.out.frozenAt _
                have d3 : wr.cell? ⟨lb, k * 10 + 3, none⟩ = some (.int .i64 (t.st : Int)) := cellsT_cell HL8.out (t := t) HLK.out hk4 HTK.out 3 rfl
                have f3 : wr.frozen? ⟨lb, k * 10 + 3, none⟩ = false := HL8.out.frozenAt _
                have d4 : wr.cell? ⟨lb, k * 10 + 4, none⟩ = some (.int .i64 (t.u : Int)) := cellsT_cell HL8.out (t := t) HLK.out hk4 HTK.out 4 rfl
                have f4 : wr.frozen? ⟨lb, k * 10 + 4, none⟩ = false := HL8.out.frozenAt _
                have d5 : wr.cell? ⟨lb, k * 10 + 5, none⟩ = some (.int .i64 (t.v : Int)) := cellsT_cell HL8.out (t := t) HLK.out hk4 HTK.out 5 rfl
                have f5 : wr.frozen? ⟨lb, k * 10 + 5, none⟩ = false := HL8.out.frozenAt _
                have d6 : wr.cell? ⟨lb, k * 10 + 6, none⟩ = some (.int .i64 (t.w : Int)) := cellsT_cell HL8.out (t := t) HLK.out hk4 HTK.out 6 rfl
                have f6 : wr.frozen? ⟨lb, k * 10 + 6, none⟩ = false := HL8.out.frozenAt _
                have d7 : wr.cell? ⟨lb, k * 10 + 7, none⟩ = some (.int .i64 (t.r : Int)) := cellsT_cell HL8.out (t := t) HLK.out hk4 HTK.out 7 rfl
                have f7 : wr.frozen? ⟨lb, k * 10 + 7, none⟩ = false := HL8.out.frozenAt _
                have d8 : wr.cell? ⟨lb, k * 10 + 8, none⟩ = some (.bool t.dn) := cellsT_cell HL8.out (t := t) HLK.out hk4 HTK.out 8 rfl
                have f8 : wr.frozen? ⟨lb, k * 10 + 8, none⟩ = false := HL8.out.frozenAt _
                have d9 : wr.cell? ⟨lb, k * 10 + 9, none⟩ = some (.int .i64 (t.res : Int)) := cellsT_cell HL8.out (t := t) HLK.out hk4 HTK.out 9 rfl
                have f9 : wr.frozen? ⟨lb, k * 10 + 9, none⟩ = false := HL8.out.frozenAt _
                rcases HWR.out with ⟨rfl, rfl⟩ | ⟨rfl, rfl⟩
                all_goals
                  go_wp2_with fail
                  go_roundw
                  case rel =>
                    refine ⟨i + 1, _, _, U, ts.set k T, by omega, by go_num, rfl, ?_, HOK.out.1, ⟨by simpa using HLK.out, fun q hq => ?_⟩, ?_, ?_⟩
                    · have hoF := HO8.out
                      refine ⟨g6, _, Own.row (g := g6) ?_ HOK.out.1.len (Nat.le_refl _) ?_, Nat.le_refl _, .inl (by omega)⟩
                      · (repeat refine Own.setOther ?_ (by assumption) _); exact hoF
                      · simpa using hoF.1
                    · rcases List.mem_or_eq_of_mem_set hq with h | h
                      · exact (hI.out.2 q h).mono HOK.out.2.2.merge
                      · subst h; exact HOK.out.2.1
                    · have := cellsT_set ts k T (by have := HLK.out; omega)
                      rw [← this]
                      exact ((((((((((HL8.out.stored (k * 10) (.int .i64 (T.k : Int))).1.stored (k * 10 + 1) (.int .i64 (T.x : Int))).1.stored (k * 10 + 2) (.int .i64 (T.y : Int))).1.stored (k * 10 + 3) (.int .i64 (T.st : Int))).1.stored (k * 10 + 4) (.int .i64 (T.u : Int))).1.stored (k * 10 + 5) (.int .i64 (T.v : Int))).1.stored (k * 10 + 6) (.int .i64 (T.w : Int))).1.stored (k * 10 + 7) (.int .i64 (T.r : Int))).1.stored (k * 10 + 8) (.bool T.dn)).1.stored (k * 10 + 9) (.int .i64 (T.res : Int))).1
                    · have hbF : Below w2.heap.size w2 _ := HB.out.trans (HB8.out.mono sr)
                      (repeat refine Below.setCell ?_ (by assumption) _)
                      exact hbF
                  case measure => simp [intOf]; omega
        · obtain rfl : i = l4 := by omega
          go_wp2_with fail
          refine (awake_any _).mono ?_
          rintro e w9 ⟨rfl, hb9⟩
          go_wp2_with fail
          go_ret
          exact ⟨rfl, HB2.out.trans ((hb.mono sw2).trans (hb9.mono (by omega)))⟩

set_option maxRecDepth 100000 in
theorem roots_law (a1 a2 a3 a4 : Option Addr) (l1 l2 l3 l4 c1 c2 c3 c4 : Nat) (x1 x2 x3 x4 : List Nat) (w : World)
    (H1 : RowY 0 w.heap.size w a1 l1 x1) (H2 : RowY 0 w.heap.size w a2 l2 x2) (H3 : RowY 0 w.heap.size w a3 l3 x3) (H4 : RowY 0 w.heap.size w a4 l4 x4) (B1 : ∀ i, i < l1 → x1.getD i 0 ≤ 255) (B2 : ∀ i, i < l2 → x2.getD i 0 ≤ 255) (B3 : ∀ i, i < l3 → x3.getD i 0 ≤ 255) (B4 : ∀ i, i < l4 → x4.getD i 0 ≤ 255) (m2 : l2 ≤ 9223372036854775807) :
    Calls Try.prog 6 #[.slice a1 l1 c1, .slice a2 l2 c2, .slice a3 l3 c3, .slice a4 l4 c4] w fun e w' => e = .returned (.bool true) ∧ Below w.heap.size w w' := by
  by_cases g1 : 60 < l1
  · clear H1 H2 H3 H4 B1 B2 B3 B4
    go_enter Try.func6, Try.ntmps6
    go_wp2_with fail
    refine (awake_any _).mono ?_
    rintro e w1 ⟨rfl, hb⟩
    go_wp2_with fail
    go_ret
    exact ⟨rfl, hb⟩
  by_cases g3 : l3 < 12
  · clear H1 H2 H3 H4 B1 B2 B3 B4
    go_enter Try.func6, Try.ntmps6
    go_wp2_with fail
    refine (awake_any _).mono ?_
    rintro e w1 ⟨rfl, hb⟩
    go_wp2_with fail
    go_ret
    exact ⟨rfl, hb⟩
  by_cases g4 : 100 < l4
  · clear H1 H2 H3 H4 B1 B2 B3 B4
    go_enter Try.func6, Try.ntmps6
    go_wp2_with fail
    refine (awake_any _).mono ?_
    rintro e w1 ⟨rfl, hb⟩
    go_wp2_with fail
    go_ret
    exact ⟨rfl, hb⟩
  · exact roots_main a1 a2 a3 a4 l1 l2 l3 l4 c1 c2 c3 c4 x1 x2 x3 x4 w (Lib.hid H1) (Lib.hid H2) (Lib.hid H3) (Lib.hid H4) (Lib.hid B1) (Lib.hid B2) (Lib.hid B3) (Lib.hid B4) m2 g1 g3 g4

end Go.Proofs.Ytigcddafiaadiaa
