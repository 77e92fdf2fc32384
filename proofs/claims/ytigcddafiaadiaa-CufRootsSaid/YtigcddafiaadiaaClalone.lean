/- The walk of the law CufAlone: it returns true and changes nothing that was there. -/
import Derived.Test.YtigcddafiaadiaaClwords
import Derived.Test.YtigcddafiaadiaaCuf2
namespace Go.Proofs.Ytigcddafiaadiaa
open Go.RowKit
set_option linter.unusedVariables false
set_option linter.unusedSimpArgs false

theorem begin_t (n : Nat) (k x y : Nat) (w : World) (h : okO n (k, x, y)) : Calls Try.prog 9 #[.agg #[.int .i64 (k : Int), .int .i64 (x : Int), .int .i64 (y : Int)], .int .i64 (n : Int)] w fun e w' =>
    e = .returned (.tuple #[.agg #[.int .i64 (k : Int), .int .i64 (x : Int), .int .i64 (y : Int), .int .i64 1, .int .i64 (x : Int), .int .i64 (y : Int), .int .i64 0, .int .i64 0, .bool false, .int .i64 0], .bool true]) ∧ Below w.heap.size w w' := by
  obtain ⟨h1, h2, h3, h4⟩ := h
  dsimp only at h1 h2 h3 h4
  have ok : okB (k : Int) (x : Int) (y : Int) (n : Int) := ⟨by omega, by omega, ⟨by omega, by omega⟩, fun _ => ⟨by omega, by omega⟩⟩
  have := begin_any (k : Int) (x : Int) (y : Int) (n : Int) w
  rw [begT_yes ok, decide_eq_true ok] at this
  exact this

/-- What the roots are behind an operation alone. -/
theorem alone_pq {n : Nat} {pr : List Int} {was up : List Nat} {k x y : Nat} {t : Tk} (A : Alone n pr was up k x y t) (hd : t.dn = true) (z : Nat) (hz : z < n) :
    rtu was z = rtu up z ∨ (k = 3 ∧ rtu was x ≠ rtu was y ∧ (rtu was z = rtu was x ∨ rtu was z = rtu was y) ∧ (rtu up z = rtu was x ∨ rtu up z = rtu was y)) := by
  have hk : k = 1 ∨ k = 2 ∨ k = 3 := by have := A.I.k1; have := A.I.k3; have := A.tk; omega
  have f := A.fin hd
  rcases hk with rfl | rfl | rfl
  · exact .inl ((f.1 rfl).1 z hz).symm
  · exact .inl ((f.2.1 rfl).1 z hz).symm
  · by_cases e : rtu was x = rtu was y
    · exact .inl (((f.2.2 rfl).1 e).1 z hz).symm
    · obtain ⟨_, c, hc, h⟩ := (f.2.2 rfl).2 e
      have := h z hz
      by_cases p : rtu was z = rtu was x ∨ rtu was z = rtu was y
      · rw [if_pos p] at this
        exact .inr ⟨rfl, e, p, by rw [this]; exact hc⟩
      · rw [if_neg p] at this
        exact .inl this.symm
/-- A uniting leaves its two under one root. -/
theorem alone_one {n : Nat} {pr : List Int} {was up : List Nat} {x y : Nat} {t : Tk} (A : Alone n pr was up 3 x y t) (hd : t.dn = true) (hx : x < n) (hy : y < n) : rtu up x = rtu up y := by
  have f := (A.fin hd).2.2 rfl
  by_cases e : rtu was x = rtu was y
  · rw [(f.1 e).1 x hx, (f.1 e).1 y hy, e]
  · obtain ⟨_, c, hc, h⟩ := f.2 e
    rw [h x hx, h y hy, if_pos (.inl rfl), if_pos (.inr rfl)]

set_option maxRecDepth 100000 in
set_option maxHeartbeats 8000000 in
theorem alone_main (a1 a2 : Option Addr) (l1 l2 c1 c2 : Nat) (x1 x2 : List Nat) (z0 z1 z2 : Nat) (w : World)
    (H1 : Hid (RowY 0 w.heap.size w a1 l1 x1)) (H2 : Hid (RowY 0 w.heap.size w a2 l2 x2)) (B1 : Hid (∀ i, i < l1 → x1.getD i 0 ≤ 255)) (B2 : Hid (∀ i, i < l2 → x2.getD i 0 ≤ 255)) (m2 : l2 ≤ 9223372036854775807) (e0 : z0 ≤ 255) (e1 : z1 ≤ 255) (e2 : z2 ≤ 255) (g1 : ¬ 60 < l1) :
    Calls Try.prog 5 #[.slice a1 l1 c1, .slice a2 l2 c2, .int .u8 (z0 : Int), .int .u8 (z1 : Int), .int .u8 (z2 : Int)] w fun e w' => e = .returned (.bool true) ∧ Below w.heap.size w w' := by
  obtain ⟨n, hn⟩ : ∃ n : Nat, (1 : Int) + (l2 : Int) % 16 = (n : Int) := ⟨1 + l2 % 16, by omega⟩
  have hn0 : 0 < n := by omega
  have hn1 : n ≤ 16 := by omega
  obtain ⟨K, hK⟩ : ∃ A : Nat, 1 + z0 % 3 = A := ⟨_, rfl⟩
  obtain ⟨X, hX⟩ : ∃ A : Nat, z1 % n = A := ⟨_, rfl⟩
  obtain ⟨Y, hY⟩ : ∃ A : Nat, z2 % n = A := ⟨_, rfl⟩
  have hXn : X < n := by rw [← hX]; exact Nat.mod_lt _ hn0
  have hYn : Y < n := by rw [← hY]; exact Nat.mod_lt _ hn0
  have hK1 : 1 ≤ K := by omega
  have hK3 : K ≤ 3 := by omega
  have HP0 : Hid (∀ w', Calls Try.prog 17 #[.int .u8 (z0 : Int), .int .u8 (z1 : Int), .int .u8 (z2 : Int), .int .i64 (n : Int)] w' fun e w'' => e = .returned (.agg #[.int .i64 (K : Int), .int .i64 (X : Int), .int .i64 (Y : Int)]) ∧ Below w'.heap.size w' w'') := fun w' => op_v z0 z1 z2 n K X Y w' hn0 (by omega) e0 e1 e2 hK hX hY
  have HG0 := Lib.hid (fun w' => begin_t n K X Y w' ⟨hK1, hK3, hXn, hYn⟩)
  clear hK hX hY e0 e1 e2
  go_enter Try.func5, Try.ntmps5
  go_wp2_with fail
  clear hn
  refine (prio_any a2 l2 c2 x2 n _ H2.out B2.out (Nat.le_refl _) m2 (by omega)).mono ?_
  rintro e w1 ⟨gp, pr, rfl, hgp, hrp, hb1⟩
  have s1 := hb1.size
  go_wp2_with fail
  refine (cells_any a1 (some ⟨gp, 0, none⟩) l1 c1 n n x1 pr _ (H1.out.below hb1 (Nat.le_refl _)) B1.out s1 (by omega) hrp (Nat.le_refl _) hn0 (by omega)).mono ?_
  rintro e w2 ⟨a7, c7, up0, rfl, hr2, hF2, hb2⟩
  have s2 := hb2.size
  have HB2 : Hid (Below w.heap.size w w2) := hb1.trans (hb2.mono s1)
  have HRP : Hid (Row w.heap.size w1.heap.size w2 (some ⟨gp, 0, none⟩) n pr) := hrp.below hb2 (Nat.le_refl _)
  have HR2 := Lib.hid hr2
  have sw2 := HB2.out.size
  clear hb1 hb2 hrp hr2
  go_wp2_with fail
  refine (HP0.out _).mono ?_
  rintro e w3 ⟨rfl, hb3⟩
  have s3 := hb3.size
  have HB3 : Hid (Below w2.heap.size w2 w3) := Lib.hid hb3
  clear hb3
  go_wp2_with fail
  refine (HG0.out _).mono ?_
  rintro e w4 ⟨rfl, hb4⟩
  have s4 := hb4.size
  rw [World.size_alloc] at s4
  have BO := (Box.new w3 24 [.int .i64 (K : Int), .int .i64 (X : Int), .int .i64 (Y : Int)]).below hb4
  have HB4 : Hid (Below w2.heap.size w2 w4) := (HB3.out.alloc s3 _).trans (hb4.mono (by simp; omega))
  have t3 : w3.heap.size < w4.heap.size := by omega
  have t4 : w2.heap.size ≤ w4.heap.size := by omega
  clear hb4 HB3
  have hob := BO.alloc (.cells #[.int .i64 (K : Int), .int .i64 (X : Int), .int .i64 (Y : Int), .int .i64 1, .int .i64 (X : Int), .int .i64 (Y : Int), .int .i64 0, .int .i64 0, .bool false, .int .i64 0] 27)
  have htb := Box.new w4 27 [.int .i64 (K : Int), .int .i64 (X : Int), .int .i64 (Y : Int), .int .i64 1, .int .i64 (X : Int), .int .i64 (Y : Int), .int .i64 0, .int .i64 0, .bool false, .int .i64 0]
  have hra := (HR2.out.below HB4.out (Nat.le_refl _)).alloc t4 (.cells #[.int .i64 (K : Int), .int .i64 (X : Int), .int .i64 (Y : Int), .int .i64 1, .int .i64 (X : Int), .int .i64 (Y : Int), .int .i64 0, .int .i64 0, .bool false, .int .i64 0] 27)
  have hrp := (HRP.out.below HB4.out s2).alloc (by omega) (.cells #[.int .i64 (K : Int), .int .i64 (X : Int), .int .i64 (Y : Int), .int .i64 1, .int .i64 (X : Int), .int .i64 (Y : Int), .int .i64 0, .int .i64 0, .bool false, .int .i64 0] 27)
  have hbw := (HB2.out.trans (HB4.out.mono sw2)).alloc (by omega) (.cells #[.int .i64 (K : Int), .int .i64 (X : Int), .int .i64 (Y : Int), .int .i64 1, .int .i64 (X : Int), .int .i64 (Y : Int), .int .i64 0, .int .i64 0, .bool false, .int .i64 0] 27)
  have s5 : w4.heap.size < (w4.alloc (.cells #[.int .i64 (K : Int), .int .i64 (X : Int), .int .i64 (Y : Int), .int .i64 1, .int .i64 (X : Int), .int .i64 (Y : Int), .int .i64 0, .int .i64 0, .bool false, .int .i64 0] 27)).heap.size := by simp
  clear BO HB4
  go_wp2_with fail
  simp only [List.toArray] at hob htb hra hrp hbw s5
  generalize w4.alloc (.cells #[.int .i64 (K : Int), .int .i64 (X : Int), .int .i64 (Y : Int), .int .i64 1, .int .i64 (X : Int), .int .i64 (Y : Int), .int .i64 0, .int .i64 0, .bool false, .int .i64 0] 27) = w5 at *
  have HOB := Lib.hid hob
  have HTB : Hid (Box w5 w4.heap.size 27 (Tk.mk K X Y 1 X Y 0 0 false 0).cells) := htb
  have HRA := Lib.hid hra
  have HRP5 := Lib.hid hrp
  have HBW := Lib.hid hbw
  have sww := HBW.out.size
  clear hob htb hra hrp hbw HR2 HRP HB2 HP0 HG0 H1 H2 B1 B2
  go_loopw [17, 18] (fun cv iv wx => ∃ (j : Nat) (t : Tk) (a' : Option Addr) (c : Nat) (up : List Nat), iv = .int .i64 (j : Int) ∧ cv = .slice a' n c ∧ Hid (∃ lo hi, RowN lo hi wx a' n up ∧ hi ≤ wx.heap.size ∧ (w4.heap.size < lo ∨ hi ≤ w4.heap.size)) ∧ Hid (Alone n pr up0 up K X Y t) ∧ Hid (Box wx w4.heap.size 27 t.cells) ∧ Hid (j + mes pr n t ≤ 6 * n) ∧ Below w4.heap.size w5 wx) (fun _ iv _ => 300 - (intOf iv).toNat)
  case atStart =>
    refine ⟨0, Tk.mk K X Y 1 X Y 0 0 false 0, a7, c7, up0, rfl, rfl, ⟨_, _, HRA.out, by omega, .inr (by omega)⟩, alone_new hF2.out hK1 hK3 hXn hYn, HTB, ?_, Below.refl _ _⟩
    have := mes_new (pr := pr) (k := K) (y := Y) hXn
    show 0 + _ ≤ _
    split at this <;> omega
  case round =>
    clear HTB
    obtain ⟨j, t, a', c, up, rfl, rfl, hr, hA, hT, hJ, hb⟩ := hrel
    have sr := hb.size
    have htb := hT.out.lt
    have hj1 : (j : Int) < 300 := by have := hJ.out; omega
    obtain ⟨q0, q1, q2, q3, q4, q5, q6, q7, q8, q9⟩ := Tk.ten hT.out
    obtain ⟨lo, hi', hr1, hhi, hap⟩ := hr.out
    have HR := Lib.hid hr1
    have HAP := Lib.hid hap
    have HBB := Lib.hid hb
    have HRPx := Lib.hid (HRP5.out.below hb (by omega))
    have HRAx := Lib.hid (HRA.out.below hb (by omega))
    have HOx : Hid (Box wr w3.heap.size 24 [.int .i64 (K : Int), .int .i64 (X : Int), .int .i64 (Y : Int)]) := (hb.block _ t3).trans HOB.out
    clear hr1 hap hb
    by_cases hd : t.dn = true
    ·
      have HD := Lib.hid hd
      have HF := Lib.hid hA.out.F
      have HPQ := Lib.hid (alone_pq hA.out hd)
      have hf := Lib.hid (hA.out.fin hd)
      have o0 : wr.cell? ⟨w3.heap.size, 0, none⟩ = some (.int .i64 (K : Int)) := HOx.out.cell 0
      have o1 : wr.cell? ⟨w3.heap.size, 1, none⟩ = some (.int .i64 (X : Int)) := HOx.out.cell 1
      have o2 : wr.cell? ⟨w3.heap.size, 2, none⟩ = some (.int .i64 (Y : Int)) := HOx.out.cell 2
      have ho : w3.heap.size < wr.heap.size := by omega
      clear q0 q1 q2 q3 q4 q5 q6 q7
      go_wp2_with fail
      refine (rmay_true _ _ n _ _ up pr _ HF.out HR.out HRPx.out (by omega)).mono ?_
      rintro e w' ⟨rfl, m1, rfl⟩
      obtain ⟨RX, hRX⟩ : ∃ v : Int, ((rtu up0 X : Nat) : Int) = v := ⟨_, rfl⟩
      obtain ⟨RY, hRY⟩ : ∃ v : Int, ((rtu up0 Y : Nat) : Int) = v := ⟨_, rfl⟩
      have HRX : Hid (∀ q, Calls Try.prog 14 #[.slice a7 n c7, .int .i64 (X : Int)] (wr.drewN (m1 + q)) fun e w' => e = .returned (.int .i64 RX) ∧ ∃ m, w' = wr.drewN (m1 + m)) := fun q => by
        have := rroot_in a7 n c7 pr up0 X (wr.drewN (m1 + q)) hF2.out (HRAx.out.drewN' _) hXn (by omega)
        rw [hRX] at this
        exact this.mono fun e w' h => ⟨h.1, q, h.2.symm⟩
      have HRY : Hid (∀ q, Calls Try.prog 14 #[.slice a7 n c7, .int .i64 (Y : Int)] (wr.drewN (m1 + q)) fun e w' => e = .returned (.int .i64 RY) ∧ ∃ m, w' = wr.drewN (m1 + m)) := fun q => by
        have := rroot_in a7 n c7 pr up0 Y (wr.drewN (m1 + q)) hF2.out (HRAx.out.drewN' _) hYn (by omega)
        rw [hRY] at this
        exact this.mono fun e w' h => ⟨h.1, q, h.2.symm⟩
      have HXE := Lib.hid hRX
      have HYE := Lib.hid hRY
      clear hRX hRY
      go_wp2_with fail
      go_quiet ((go_at_call 14; first | (with_reducible refine HRX.out _) | (with_reducible refine HRY.out _)))
      go_wp2_with fail
      go_loopw [23] (fun iv wy => ∃ z m : Nat, z ≤ n ∧ iv = .int .i64 (z : Int) ∧ wy = wr.drewN m) (fun iv _ => n - (intOf iv).toNat)
      case atStart => exact ⟨0, _, Nat.zero_le _, rfl, by first | exact rfl | exact World.drewN_drewN _ _ _⟩
      case round =>
        clear HRX HRY
        obtain ⟨z, m, hz, rfl, rfl⟩ := hrel
        by_cases hlz : z < n
        · have hpq := HPQ.out z hlz
          obtain ⟨P, hP⟩ : ∃ v : Int, ((rtu up0 z : Nat) : Int) = v := ⟨_, rfl⟩
          obtain ⟨Q, hQ⟩ : ∃ v : Int, ((rtu up z : Nat) : Int) = v := ⟨_, rfl⟩
          have HR1 : Hid (Calls Try.prog 14 #[.slice a7 n c7, .int .i64 (z : Int)] (wr.drewN m) fun e w' => e = .returned (.int .i64 P) ∧ wr.drewN m = w') := by
            have := rroot_in a7 n c7 pr up0 z (wr.drewN m) hF2.out (HRAx.out.drewN' _) hlz (by omega)
            rwa [hP] at this
          have HR3 : Hid (Calls Try.prog 14 #[.slice a' n c, .int .i64 (z : Int)] (wr.drewN m) fun e w' => e = .returned (.int .i64 Q) ∧ wr.drewN m = w') := by
            have := rroot_in a' n c pr up z (wr.drewN m) HF.out (HR.out.drewN' _) hlz (by omega)
            rwa [hQ] at this
          have hz1 : (z : Int) < (n : Int) := by omega
          have hx0 := HXE.out
          have hy0 := HYE.out
          by_cases hPQ : P = Q
          · subst hPQ
            have nPP : (P != P) = false := by simp
            clear hpq hP hQ hx0 hy0
            go_wp2_with (first
              | (go_at_call 14; (with_reducible refine (HR1.out).mono ?_); rintro e w' ⟨rfl, rfl⟩)
              | (go_at_call 14; (with_reducible refine (HR3.out).mono ?_); rintro e w' ⟨rfl, rfl⟩))
            go_roundw
            case rel => exact ⟨z + 1, _, by omega, by go_num, rfl⟩
            case measure => simp [intOf]; omega
          · obtain ⟨hk, hxy, hp, hq⟩ := hpq.resolve_left (by omega)
            have bK : ((K : Int) != 3) = false := by simp; omega
            have hXY : RX ≠ RY := by omega
            have b1 : (RX != RY) = true := by simpa using hXY
            have b2 : (RY != RX) = true := by simpa using (Ne.symm hXY)
            have hh : (P = RX ∧ Q = RY) ∨ (P = RY ∧ Q = RX) := by omega
            have nX : (RX != RX) = false := by simp
            have nY : (RY != RY) = false := by simp
            clear hP hQ hp hq hPQ hx0 hy0 hpq hxy hXY
            clear hk
            rcases hh with ⟨rfl, rfl⟩ | ⟨rfl, rfl⟩
            all_goals
              go_wp2_with (first
                | (go_at_call 14; (with_reducible refine (HR1.out).mono ?_); rintro e w' ⟨rfl, rfl⟩)
                | (go_at_call 14; (with_reducible refine (HR3.out).mono ?_); rintro e w' ⟨rfl, rfl⟩))
              go_roundw
              case rel => exact ⟨z + 1, _, by omega, by go_num, rfl⟩
              case measure => simp [intOf]; omega
        · obtain rfl : z = n := by omega
          have hk : K = 1 ∨ K = 2 ∨ K = 3 := by omega
          rcases hk with rfl | rfl | rfl
          · have hres : ((t.res : Int) == RX) = true := by
              have := (hf.out.1 rfl).2
              have := HXE.out
              simp; omega
            have o0' : wr.cell? ⟨w3.heap.size, 0, none⟩ = some (.int .i64 1) := o0
            clear o0
            go_wp2_with fail
            refine (awake_any _).mono ?_
            rintro e w9 ⟨rfl, hb9⟩
            go_wp2_with fail
            go_ret
            exact ⟨rfl, HBW.out.trans (((below_drewN' HBB.out m).mono (by omega)).trans (hb9.mono (by rw [size_drewN']; omega)))⟩
          · have o0' : wr.cell? ⟨w3.heap.size, 0, none⟩ = some (.int .i64 2) := o0
            have hf2 := (hf.out.2.1 rfl).2
            have hx0 := HXE.out
            have hy0 := HYE.out
            by_cases e : RX = RY
            · subst e
              rw [if_pos (by omega)] at hf2
              rw [hf2] at q9
              have q9' : wr.cell? ⟨w4.heap.size, 9, none⟩ = some (.int .i64 1) := q9
              have nX : (RX == RX) = true := by simp
              clear o0 hf2 hx0 hy0 q9
              go_wp2_with fail
              refine (awake_any _).mono ?_
              rintro e w9 ⟨rfl, hb9⟩
              go_wp2_with fail
              go_ret
              exact ⟨rfl, HBW.out.trans (((below_drewN' HBB.out m).mono (by omega)).trans (hb9.mono (by rw [size_drewN']; omega)))⟩
            · rw [if_neg (by omega)] at hf2
              rw [hf2] at q9
              have q9' : wr.cell? ⟨w4.heap.size, 9, none⟩ = some (.int .i64 0) := q9
              have nX : (RX == RY) = false := by simpa using e
              clear o0 hf2 hx0 hy0 q9
              go_wp2_with fail
              refine (awake_any _).mono ?_
              rintro e w9 ⟨rfl, hb9⟩
              go_wp2_with fail
              go_ret
              exact ⟨rfl, HBW.out.trans (((below_drewN' HBB.out m).mono (by omega)).trans (hb9.mono (by rw [size_drewN']; omega)))⟩
          · have o0' : wr.cell? ⟨w3.heap.size, 0, none⟩ = some (.int .i64 3) := o0
            have hone := alone_one hA.out hd hXn hYn
            obtain ⟨C, hC⟩ : ∃ v : Int, ((rtu up X : Nat) : Int) = v := ⟨_, rfl⟩
            have hC2 : ((rtu up Y : Nat) : Int) = C := by rw [← hone]; exact hC
            have HCX : Hid (∀ w', Below wr.heap.size wr w' → Calls Try.prog 14 #[.slice a' z c, .int .i64 (X : Int)] w' fun e w'' => e = .returned (.int .i64 C) ∧ w' = w'') := fun w' hb => by
              have := rroot_in a' z c pr up X w' HF.out (HR.out.below hb hhi) hXn (by omega)
              rwa [hC] at this
            have HCY : Hid (∀ w', Below wr.heap.size wr w' → Calls Try.prog 14 #[.slice a' z c, .int .i64 (Y : Int)] w' fun e w'' => e = .returned (.int .i64 C) ∧ w' = w'') := fun w' hb => by
              have := rroot_in a' z c pr up Y w' HF.out (HR.out.below hb hhi) hYn (by omega)
              rwa [hC2] at this
            have hf3 := hf.out.2.2 rfl
            have hx0 := HXE.out
            have hy0 := HYE.out
            have hres : ∃ r : Int, wr.cell? ⟨w4.heap.size, 9, none⟩ = some (.int .i64 r) ∧ ((r == 1) == (RX != RY)) = true := by
              refine ⟨_, q9, ?_⟩
              by_cases e : RX = RY
              · subst e
                rw [(hf3.1 (by omega)).2]; simp
              · rw [(hf3.2 (by omega)).1]; simp [e]
            obtain ⟨r, q9', hr9⟩ := hres
            have HK : Hid (∀ w', Below wr.heap.size wr w' → (Below wr.heap.size wr w' ∧ w'.cell? ⟨w4.heap.size, 9, none⟩ = some (.int .i64 r) ∧ w'.cell? ⟨w3.heap.size, 1, none⟩ = some (.int .i64 (X : Int)) ∧ w'.cell? ⟨w3.heap.size, 2, none⟩ = some (.int .i64 (Y : Int)))) := fun w' h =>
              ⟨h, (h.cell (p := ⟨w4.heap.size, 9, none⟩) htb).trans q9', (h.cell (p := ⟨w3.heap.size, 1, none⟩) ho).trans o1, (h.cell (p := ⟨w3.heap.size, 2, none⟩) ho).trans o2⟩
            have hb0 : Below wr.heap.size wr (wr.drewN m) := below_drewN' (Below.refl _ _) m
            have hCC : (C == C) = true := by simp
            have HAW := Lib.hid awake_any
            clear o0 o1 o2 q8 q9 q9' hf3 hx0 hy0 hone hC hC2 hf
            go_wp2_with fail
            generalize wr.drewN m = wd at hb0 ⊢
            go_region_held3 (fun w' => Below wr.heap.size wr w' ∧ w'.cell? ⟨w4.heap.size, 9, none⟩ = some (.int .i64 r) ∧ w'.cell? ⟨w3.heap.size, 1, none⟩ = some (.int .i64 (X : Int)) ∧ w'.cell? ⟨w3.heap.size, 2, none⟩ = some (.int .i64 (Y : Int)))
              (first
                | exact HK.out _ hb0.drew
                | exact HK.out _ (And.left (by assumption))
                | exact HK.out _ (below_next hb0.drew hbz (Nat.le_refl _))
                | exact HK.out _ (below_next (And.left (by assumption)) hbz (Nat.le_refl _)))
              (first
                | (go_at_call 14; (with_reducible refine (HCX.out _ (And.left (by assumption))).mono ?_); rintro e wz ⟨rfl, rfl⟩)
                | (go_at_call 14; (with_reducible refine (HCY.out _ (And.left (by assumption))).mono ?_); rintro e wz ⟨rfl, rfl⟩)
                | (go_at_call 8; (with_reducible refine (HAW.out _).mono ?_); rintro e wz ⟨rfl, hbz⟩)
                | fail)
            all_goals
              have hbe : Below wr.heap.size wr _ := And.left (by assumption)
              go_wp2_with fail
              go_ret
              exact ⟨rfl, HBW.out.trans ((HBB.out.mono (by omega)).trans (hbe.mono (by omega)))⟩
    · have hd' : t.dn = false := by simpa using hd
      obtain ⟨T, hTs⟩ : ∃ T, tks up pr t = T := ⟨_, rfl⟩
      obtain ⟨U, hU⟩ : ∃ U, ups up pr t = U := ⟨_, rfl⟩
      have ok := alone_step hA.out hXn hYn hd'
      rw [hTs, hU] at ok
      have HOK := Lib.hid ok
      have hst := step_t a' (some ⟨gp, 0, none⟩) n c n pr up t wr hA.out.I HR.out hhi HRPx.out (by omega) (by omega) T hTs U hU
      rw [hd'] at hst q8
      have HST := Lib.hid hst
      have HD := Lib.hid hd'
      have H1 := Lib.hid (Tk.one T)
      clear hTs hU ok hst hd
      go_wp2_with fail
      refine (HST.out).mono ?_
      rintro e w6 ⟨g6, c6, rfl, hg6, ho6, hb6⟩
      have s6 := hb6.size
      have HO6 := Lib.hid (ho6.alloc (.cells #[.int .i64 (T.k : Int), .int .i64 (T.x : Int), .int .i64 (T.y : Int), .int .i64 (T.st : Int), .int .i64 (T.u : Int), .int .i64 (T.v : Int), .int .i64 (T.w : Int), .int .i64 (T.r : Int), .bool T.dn, .int .i64 (T.res : Int)] 27))
      have HT6 := Lib.hid ((hT.out.below hb6).alloc (.cells #[.int .i64 (T.k : Int), .int .i64 (T.x : Int), .int .i64 (T.y : Int), .int .i64 (T.st : Int), .int .i64 (T.u : Int), .int .i64 (T.v : Int), .int .i64 (T.w : Int), .int .i64 (T.r : Int), .bool T.dn, .int .i64 (T.res : Int)] 27))
      have HB6 := Lib.hid ((HBB.out.trans (hb6.mono (by omega))).alloc (by omega) (.cells #[.int .i64 (T.k : Int), .int .i64 (T.x : Int), .int .i64 (T.y : Int), .int .i64 (T.st : Int), .int .i64 (T.u : Int), .int .i64 (T.v : Int), .int .i64 (T.w : Int), .int .i64 (T.r : Int), .bool T.dn, .int .i64 (T.res : Int)] 27))
      have hsz : (w6.alloc (.cells #[.int .i64 (T.k : Int), .int .i64 (T.x : Int), .int .i64 (T.y : Int), .int .i64 (T.st : Int), .int .i64 (T.u : Int), .int .i64 (T.v : Int), .int .i64 (T.w : Int), .int .i64 (T.r : Int), .bool T.dn, .int .i64 (T.res : Int)] 27)).heap.size = w6.heap.size + 1 := by simp
      have n6 : g6 ≠ w4.heap.size := by omega
      have hlU := HOK.out.1.F.len
      clear hb6 ho6
      go_wp2_with (refine wpList_store_box rfl 27 _ _ rfl w4.heap.size T.cells rfl rfl 27 _ HT6.out Try.taskSize rfl H1.out ?_; intro w7 BT7 ht7)
      have s7 := ht7.size
      rw [World.size_alloc] at s7
      have HO7 := Lib.hid (ht7.own HO6.out n6 n6)
      have HT7 := Lib.hid BT7
      have HB7 : Hid (Below w4.heap.size w5 w7) := HB6.out.trans (ht7.below (by rw [hsz]; omega) (Nat.le_refl _) (Nat.le_refl _))
      clear BT7 ht7
      go_roundw
      case rel =>
        refine ⟨j + 1, T, _, _, U, by go_num, rfl, ⟨g6, w7.heap.size, HO7.out.row HOK.out.1.F.len (Nat.le_refl _) HO7.out.1, Nat.le_refl _, .inl (by omega)⟩, HOK.out.1, HT7, ?_, HB7.out⟩
        have := HOK.out.2
        have := hJ.out
        show _ ≤ _
        omega
      case measure => have := hJ.out; simp [intOf]; omega

set_option maxRecDepth 100000 in
theorem alone_law (a1 a2 : Option Addr) (l1 l2 c1 c2 : Nat) (x1 x2 : List Nat) (z0 z1 z2 : Nat) (w : World)
    (H1 : RowY 0 w.heap.size w a1 l1 x1) (H2 : RowY 0 w.heap.size w a2 l2 x2) (B1 : ∀ i, i < l1 → x1.getD i 0 ≤ 255) (B2 : ∀ i, i < l2 → x2.getD i 0 ≤ 255) (m2 : l2 ≤ 9223372036854775807) (e0 : z0 ≤ 255) (e1 : z1 ≤ 255) (e2 : z2 ≤ 255) :
    Calls Try.prog 5 #[.slice a1 l1 c1, .slice a2 l2 c2, .int .u8 (z0 : Int), .int .u8 (z1 : Int), .int .u8 (z2 : Int)] w fun e w' => e = .returned (.bool true) ∧ Below w.heap.size w w' := by
  by_cases g1 : 60 < l1
  · clear H1 H2 B1 B2
    go_enter Try.func5, Try.ntmps5
    go_wp2_with fail
    refine (awake_any _).mono ?_
    rintro e w1 ⟨rfl, hb⟩
    go_wp2_with fail
    go_ret
    exact ⟨rfl, hb⟩
  · exact alone_main a1 a2 l1 l2 c1 c2 x1 x2 z0 z1 z2 w (Lib.hid H1) (Lib.hid H2) (Lib.hid B1) (Lib.hid B2) m2 e0 e1 e2 g1

end Go.Proofs.Ytigcddafiaadiaa
