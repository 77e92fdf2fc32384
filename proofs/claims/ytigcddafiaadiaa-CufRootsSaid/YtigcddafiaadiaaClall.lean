/- The walk of the law CufAll: it returns true and changes nothing that was there. -/
import Derived.Test.YtigcddafiaadiaaCeq
namespace Go.Proofs.Ytigcddafiaadiaa
open Go.RowKit
set_option linter.unusedVariables false
set_option linter.unusedSimpArgs false

theorem lift {f : Nat} {args : Array Value} {v : Value} {w6 : World} (h : ∀ w', Below w6.heap.size w6 w' → Calls Try.prog f args w' fun e w'' => e = .returned v ∧ Below w'.heap.size w' w'') :
    ∀ w', Below w6.heap.size w6 w' → Calls Try.prog f args w' fun e w'' => e = .returned v ∧ Below w6.heap.size w6 w'' := fun w' hb => (h w' hb).mono fun e w'' ⟨h1, h2⟩ => ⟨h1, hb.trans (h2.mono hb.size)⟩
theorem calls_drew {f : Nat} {args : Array Value} {v : Value} {w : World} (h : Calls Try.prog f args w fun e w' => e = .returned v ∧ ∃ n, w' = w.drewN n) : Calls Try.prog f args w fun e w' => e = .returned v ∧ Below w.heap.size w w' :=
  h.mono fun e w' ⟨h1, n, h2⟩ => ⟨h1, by subst h2; exact below_drewN' (Below.refl _ _) _⟩
theorem calls_still {f : Nat} {args : Array Value} {v : Value} {w : World} (h : Calls Try.prog f args w fun e w' => e = .returned v ∧ w = w') : Calls Try.prog f args w fun e w' => e = .returned v ∧ Below w.heap.size w w' :=
  h.mono fun e w' ⟨h1, h2⟩ => ⟨h1, by subst h2; exact Below.refl _ _⟩

theorem beg_form (k x y n : Int) (hk : fits k) (hx : fits x) (hy : fits y) : ∃ k' x' y' st' : Int, fits k' ∧ fits x' ∧ fits y' ∧ fits st' ∧
    begT k x y n = .agg #[.int .i64 k', .int .i64 x', .int .i64 y', .int .i64 st', .int .i64 x', .int .i64 y', .int .i64 0, .int .i64 0, .bool false, .int .i64 0] ∧
    begR k x y n = .agg #[.int .i64 k', .int .i64 x', .int .i64 y', .int .i64 st', .int .i64 x', .int .i64 y', .int .i64 0, .int .i64 0, .bool false, .int .i64 0, .bool (decide (okB k x y n))] := by
  by_cases h : okB k x y n
  · exact ⟨k, x, y, 1, hk, hx, hy, by unfold fits; omega, begT_yes h, by rw [begR_yes h, decide_eq_true h]⟩
  · exact ⟨0, 0, 0, 0, by unfold fits; omega, by unfold fits; omega, by unfold fits; omega, by unfold fits; omega, begT_no h, by rw [begR_no h, decide_eq_false h]⟩

theorem Tk10 {w : World} {b : Nat} {t : TypeId} {c0 c1 c2 c3 c4 c5 c6 c7 c8 c9 c10 : Value} (h : Box w b t [c0, c1, c2, c3, c4, c5, c6, c7, c8, c9, c10]) : w.cell? ⟨b, 0, none⟩ = some c0 ∧ w.cell? ⟨b, 1, none⟩ = some c1 ∧ w.cell? ⟨b, 2, none⟩ = some c2 ∧ w.cell? ⟨b, 3, none⟩ = some c3 ∧ w.cell? ⟨b, 4, none⟩ = some c4 ∧ w.cell? ⟨b, 5, none⟩ = some c5 ∧ w.cell? ⟨b, 6, none⟩ = some c6 ∧ w.cell? ⟨b, 7, none⟩ = some c7 ∧ w.cell? ⟨b, 8, none⟩ = some c8 ∧ w.cell? ⟨b, 9, none⟩ = some c9 ∧ w.cell? ⟨b, 10, none⟩ = some c10 := h.eleven

set_option maxRecDepth 100000 in
set_option maxHeartbeats 2000000 in
theorem all_law (a b : Option Addr) (la ca lb cb : Nat) (xs pr : List Int) (x k ox oy n : Int) (w : World) (hx : Row 0 w.heap.size w a la xs) (hy : Row 0 w.heap.size w b lb pr) (hk : fits k) (hox : fits ox) (hoy : fits oy) :
    Calls Try.prog 3 #[.slice a la ca, .slice b lb cb, .int .i64 x, .agg #[.int .i64 k, .int .i64 ox, .int .i64 oy], .int .i64 n] w fun e w' => e = .returned (.bool true) ∧ Below w.heap.size w w' := by
  have HX := Lib.hid hx
  have HY := Lib.hid hy
  clear hx hy
  by_cases h1 : 100 < la
  · go_enter Try.func3, Try.ntmps3
    go_wp2_with fail
    refine (awake_any _).mono ?_
    rintro e w1 ⟨rfl, hb⟩
    go_wp2_with fail
    go_ret
    exact ⟨rfl, ((Below.refl _ _).alloc (Nat.le_refl _) _).trans (hb.mono (by simp))⟩
  · by_cases h2 : 100 < lb
    · go_enter Try.func3, Try.ntmps3
      go_wp2_with fail
      refine (awake_any _).mono ?_
      rintro e w1 ⟨rfl, hb⟩
      go_wp2_with fail
      go_ret
      exact ⟨rfl, ((Below.refl _ _).alloc (Nat.le_refl _) _).trans (hb.mono (by simp))⟩
    · obtain ⟨k', x', y', st', f1, f2, f3, f4, e1, e2⟩ := beg_form k ox oy n hk hox hoy
      obtain ⟨ok, hok⟩ : ∃ v, decide (okB k ox oy n) = v := ⟨_, rfl⟩
      obtain ⟨mv, hmv⟩ : ∃ v, mayU xs pr = v := ⟨_, rfl⟩
      rw [hok] at e2
      have HBG : Hid (∀ w', Calls Try.prog 9 #[.agg #[.int .i64 k, .int .i64 ox, .int .i64 oy], .int .i64 n] w' fun e w'' => e = .returned (.tuple #[.agg #[.int .i64 k', .int .i64 x', .int .i64 y', .int .i64 st', .int .i64 x', .int .i64 y', .int .i64 0, .int .i64 0, .bool false, .int .i64 0], .bool ok]) ∧ Below w'.heap.size w' w'') := fun w' => by
        have := begin_any k ox oy n w'
        rwa [e1, hok] at this
      have HRB : Hid (∀ w', Calls Try.prog 10 #[.agg #[.int .i64 k, .int .i64 ox, .int .i64 oy], .int .i64 n] w' fun e w'' => e = .returned (.agg #[.int .i64 k', .int .i64 x', .int .i64 y', .int .i64 st', .int .i64 x', .int .i64 y', .int .i64 0, .int .i64 0, .bool false, .int .i64 0, .bool ok]) ∧ Below w'.heap.size w' w'') := fun w' => by
        have := rbegin_any k ox oy n w'
        rwa [e2] at this
      have hnb : (ok != ok) = false := by cases ok <;> rfl
      have hnm : (mv != mv) = false := by cases mv <;> rfl
      have hG := tk_guard
      have z0 : fits 0 := by unfold fits; omega
      have hE := fun W : World => tk_same (k := k') (x := x') (y := y') (st := st') (u := x') (v := y') (ww := 0) (r := 0) (res := 0) false W f1 f2 f3 f4 f2 f3 z0 z0 z0
      have HMV := Lib.hid hmv
      clear e1 e2 hok hmv f1 f2 f3 f4 z0
      go_enter Try.func3, Try.ntmps3
      go_wp2_with fail
      refine (HBG.out _).mono ?_
      rintro e w1 ⟨rfl, hb1⟩
      have s1 := hb1.size
      rw [World.size_alloc] at s1
      have BO := (Box.new w 24 [.int .i64 k, .int .i64 ox, .int .i64 oy]).below hb1
      obtain ⟨_, _, _, _, _, _⟩ := BO.three
      have t1 : w.heap.size < w1.heap.size := by omega
      have HB1 : Hid (Below w.heap.size w w1) := ((Below.refl _ _).alloc (Nat.le_refl _) _).trans (hb1.mono (by simp))
      clear hb1 BO
      go_wp2_with fail
      refine (HRB.out _).mono ?_
      rintro e w2 ⟨rfl, hb2⟩
      have s2 := hb2.size
      rw [World.size_alloc] at s2
      have BT := (Box.new w1 27 [.int .i64 k', .int .i64 x', .int .i64 y', .int .i64 st', .int .i64 x', .int .i64 y', .int .i64 0, .int .i64 0, .bool false, .int .i64 0]).below hb2
      have HBT := Lib.hid BT
      have HB2 : Hid (Below w.heap.size w w2) := (HB1.out.alloc (by omega) _).trans (hb2.mono (by simp; omega))
      clear hb2 BT
      go_wp2_with fail
      have BR := Box.new w2 31 [.int .i64 k', .int .i64 x', .int .i64 y', .int .i64 st', .int .i64 x', .int .i64 y', .int .i64 0, .int .i64 0, .bool false, .int .i64 0, .bool ok]
      have BT3 := HBT.out.alloc (.cells #[.int .i64 k', .int .i64 x', .int .i64 y', .int .i64 st', .int .i64 x', .int .i64 y', .int .i64 0, .int .i64 0, .bool false, .int .i64 0, .bool ok] 31)
      have hb3 := HB2.out.alloc (by omega) (.cells #[.int .i64 k', .int .i64 x', .int .i64 y', .int .i64 st', .int .i64 x', .int .i64 y', .int .i64 0, .int .i64 0, .bool false, .int .i64 0, .bool ok] 31)
      have s3 : w2.heap.size < (w2.alloc (.cells #[.int .i64 k', .int .i64 x', .int .i64 y', .int .i64 st', .int .i64 x', .int .i64 y', .int .i64 0, .int .i64 0, .bool false, .int .i64 0, .bool ok] 31)).heap.size := by simp
      simp only [List.toArray] at BR BT3 hb3 s3
      generalize w2.alloc (.cells #[.int .i64 k', .int .i64 x', .int .i64 y', .int .i64 st', .int .i64 x', .int .i64 y', .int .i64 0, .int .i64 0, .bool false, .int .i64 0, .bool ok] 31) = w3 at *
      have HB3 := Lib.hid hb3
      have HBR := Lib.hid BR
      have HT3 := Lib.hid BT3
      have hxl := HX.out.below hb3 (Nat.le_refl _)
      have hyl := HY.out.below hb3 (Nat.le_refl _)
      have sw := hb3.size
      have HM := Lib.hid (lift (w6 := w3) fun w' h => calls_drew (HMV.out ▸ may_any a b la ca lb cb xs pr w' (hxl.below h sw) (hyl.below h sw) (by omega) (by omega)))
      have HRM := Lib.hid (lift (w6 := w3) fun w' h => calls_drew (HMV.out ▸ rmay_any a b la ca lb cb xs pr w' (hxl.below h sw) (hyl.below h sw) (by omega) (by omega)))
      have HAW := Lib.hid (lift (w6 := w3) fun w' _ => awake_any w')
      have HXL := Lib.hid hxl
      have HB : Below w3.heap.size w3 w3 := Below.refl _ _
      clear hb3 BR BT3 hxl hyl
      refine (HM.out _ HB).mono ?_
      clear HB
      rintro e w4 ⟨rfl, HB⟩
      go_wp2_with fail
      refine (HRM.out _ HB).mono ?_
      clear HB
      rintro e w5 ⟨rfl, HB⟩
      have BT5 := HT3.out.below HB
      have BR5 := HBR.out.below HB
      obtain ⟨_, _, _, _, _, _, _, _, _, _⟩ := BT5.ten
      obtain ⟨_, _, _, _, _, _, _, _, _, _, _⟩ := BR5.eleven
      have s5 := HB.size
      have t5 : w1.heap.size < w5.heap.size := by omega
      have t6 : w2.heap.size < w5.heap.size := by omega
      clear BT5 BR5 HM
      cases mv with
      | false =>
        go_wp2_with (first
          | (go_at_call 12; (with_reducible refine (HRM.out _ HB).mono ?_); clear HB; rintro e wz ⟨rfl, HB⟩)
          | (go_at_call 8; (with_reducible refine (HAW.out _ HB).mono ?_); clear HB; rintro e wz ⟨rfl, HB⟩))
        go_ret
        exact ⟨rfl, HB3.out.trans (HB.mono sw)⟩
      | true =>
        obtain ⟨F, hnn, hpl⟩ := for_mayU HMV.out
        have hxa : xs.length = la := HXL.out.1
        have hpb : la = la := rfl
        have hr := HXL.out.nats (fun i hi => hnn i (by omega))
        have F2 : For la pr (xs.map Int.toNat) := by rw [← hxa]; exact F
        have HR1 := Lib.hid (lift (w6 := w3) fun w' h => calls_still (root_any a la ca pr (xs.map Int.toNat) x w' F2 (hr.below h sw) (by omega)))
        have HR2 := Lib.hid (lift (w6 := w3) fun w' h => calls_still (rroot_any a la ca pr (xs.map Int.toNat) x w' F2 (hr.below h sw) (by omega)))
        generalize rootI (xs.map Int.toNat) x = rv at *
        clear F hnn hpl hxa hpb hr F2
        go_wp2_with (first
          | (go_at_call 12; (with_reducible refine (HRM.out _ HB).mono ?_); clear HB; rintro e wz ⟨rfl, HB⟩)
          | (go_at_call 13; (with_reducible refine (HR1.out _ HB).mono ?_); clear HB; rintro e wz ⟨rfl, HB⟩)
          | (go_at_call 14; (with_reducible refine (HR2.out _ HB).mono ?_); clear HB; rintro e wz ⟨rfl, HB⟩)
          | (go_at_call 8; (with_reducible refine (HAW.out _ HB).mono ?_); clear HB; rintro e wz ⟨rfl, HB⟩))
        go_ret
        exact ⟨rfl, HB3.out.trans (HB.mono sw)⟩

end Go.Proofs.Ytigcddafiaadiaa
