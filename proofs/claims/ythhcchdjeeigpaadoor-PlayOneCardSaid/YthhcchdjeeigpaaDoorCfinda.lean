/- Contracts of find, one way through it each. -/
import Derived.Test.YthhcchdjeeigpaaDoorCfresh
import Derived.Deep.RegionWith
import Derived.Deep.CutRange
import Derived.Deep.RegionHeld3
namespace Go.Proofs.YthhcchdjeeigpaaDoor
open Go.RowKit
open Go.ChangeMaps (setBlock)
set_option linter.unusedVariables false
set_option linter.unusedSimpArgs false

set_option maxRecDepth 100000 in
set_option maxHeartbeats 2000000 in
theorem find_10y (g la ca tb : Nat) (up : List Nat) (k x y u v ww r res : Nat) (w : World) (ho : Own w g up) (hl : up.length = la) (BT : Box w tb 87 [.int .i64 (k : Int), .int .i64 (x : Int), .int .i64 (y : Int), .int .i64 1, .int .i64 (u : Int), .int .i64 (v : Int), .int .i64 (ww : Int), .int .i64 (r : Int), .bool false, .int .i64 (res : Int)]) (hne : g ≠ tb) (hu : u < la) (hv : v < la) (hw : ww < la) (hr : r < la) (hm : la ≤ 1000000) (e : el up u = u) :
    Calls Tryd.prog 80 #[.slice (some ⟨g, 0, none⟩) la ca, .pointer (some ⟨tb, 0, none⟩), .pointer (some ⟨tb, 4, none⟩), .int .i64 1] w fun e w' =>
      e = .returned (.bool true) ∧ Own w' g (up) ∧ Box w' tb 87 [.int .i64 (k : Int), .int .i64 (x : Int), .int .i64 (y : Int), .int .i64 1, .int .i64 (u : Int), .int .i64 (v : Int), .int .i64 (u : Int), .int .i64 (r : Int), .bool false, .int .i64 (res : Int)] ∧ Two g tb w w' := by
  have HL := Lib.hid hl
  have HO := Lib.hid ho
  have HT := Lib.hid BT
  have htb := BT.lt
  have hg := ho.1
  have hne2 : tb ≠ g := Ne.symm hne
  have hu0 : (0 : Int) ≤ u := by omega
  have hu1 : (u : Int) < la := by omega
  have hv0 : (0 : Int) ≤ v := by omega
  have hv1 : (v : Int) < la := by omega
  have hw0 : (0 : Int) ≤ ww := by omega
  have hw1 : (ww : Int) < la := by omega
  obtain ⟨_, _, _, _, _, _, _, _, _, _⟩ := BT.ten
  obtain ⟨_, _, _, _, _, _, _, _, _, _⟩ := BT.tenf
  clear ho hl BT
  have HE := Lib.hid e
  have hs : ((u : Int) == (u : Int)) = true := by simp
  clear e
  go_enter Tryd.func80, Tryd.ntmps80
  go_wp2_with (go_at_call 91; (with_reducible refine (look_in _ _ _ up u _ (HO.out.row (lo := 0) (hi := w.heap.size) HL.out (Nat.zero_le _) hg) hu hm).mono ?_); rw [HE.out]; rintro e w' ⟨rfl, rfl⟩)
  go_quiet (fail)
  go_wp2_with fail
  go_ret
  refine ⟨rfl, ?_, ?_, ?_⟩
  · (repeat refine Own.setOther ?_ (by assumption) _); exact HO.out
  · exact (HT.out.set 6 (.int .i64 (u : Int)))
  · exact ((Two.refl g tb w).setCell (p := ⟨tb, 6, none⟩) (.inr rfl) _).drewN nq

set_option maxRecDepth 100000 in
set_option maxHeartbeats 2000000 in
theorem find_10n (g la ca tb : Nat) (up : List Nat) (k x y u v ww r res : Nat) (w : World) (ho : Own w g up) (hl : up.length = la) (BT : Box w tb 87 [.int .i64 (k : Int), .int .i64 (x : Int), .int .i64 (y : Int), .int .i64 1, .int .i64 (u : Int), .int .i64 (v : Int), .int .i64 (ww : Int), .int .i64 (r : Int), .bool false, .int .i64 (res : Int)]) (hne : g ≠ tb) (hu : u < la) (hv : v < la) (hw : ww < la) (hr : r < la) (hm : la ≤ 1000000) (e : el up u ≠ u) :
    Calls Tryd.prog 80 #[.slice (some ⟨g, 0, none⟩) la ca, .pointer (some ⟨tb, 0, none⟩), .pointer (some ⟨tb, 4, none⟩), .int .i64 1] w fun e w' =>
      e = .returned (.bool false) ∧ Own w' g (up) ∧ Box w' tb 87 [.int .i64 (k : Int), .int .i64 (x : Int), .int .i64 (y : Int), .int .i64 2, .int .i64 (u : Int), .int .i64 (v : Int), .int .i64 (el up u : Int), .int .i64 (r : Int), .bool false, .int .i64 (res : Int)] ∧ Two g tb w w' := by
  have HL := Lib.hid hl
  have HO := Lib.hid ho
  have HT := Lib.hid BT
  have htb := BT.lt
  have hg := ho.1
  have hne2 : tb ≠ g := Ne.symm hne
  have hu0 : (0 : Int) ≤ u := by omega
  have hu1 : (u : Int) < la := by omega
  have hv0 : (0 : Int) ≤ v := by omega
  have hv1 : (v : Int) < la := by omega
  have hw0 : (0 : Int) ≤ ww := by omega
  have hw1 : (ww : Int) < la := by omega
  obtain ⟨_, _, _, _, _, _, _, _, _, _⟩ := BT.ten
  obtain ⟨_, _, _, _, _, _, _, _, _, _⟩ := BT.tenf
  clear ho hl BT
  obtain ⟨q, hq⟩ : ∃ q, el up u = q := ⟨_, rfl⟩
  rw [hq] at e ⊢
  have HE := Lib.hid hq
  have hs : ((q : Int) == (u : Int)) = false := by simp; omega
  clear e hq
  go_enter Tryd.func80, Tryd.ntmps80
  go_wp2_with (go_at_call 91; (with_reducible refine (look_in _ _ _ up u _ (HO.out.row (lo := 0) (hi := w.heap.size) HL.out (Nat.zero_le _) hg) hu hm).mono ?_); rw [HE.out]; rintro e w' ⟨rfl, rfl⟩)
  go_quiet (fail)
  go_wp2_with fail
  go_ret
  refine ⟨rfl, ?_, ?_, ?_⟩
  · (repeat refine Own.setOther ?_ (by assumption) _); exact HO.out
  · exact ((HT.out.set 6 (.int .i64 (q : Int))).set 3 (.int .i64 2))
  · exact (((Two.refl g tb w).setCell (p := ⟨tb, 6, none⟩) (.inr rfl) _).drewN nq).setCell (p := ⟨tb, 3, none⟩) (.inr rfl) _

set_option maxRecDepth 100000 in
set_option maxHeartbeats 2000000 in
theorem find_11y (g la ca tb : Nat) (up : List Nat) (k x y u v ww r res : Nat) (w : World) (ho : Own w g up) (hl : up.length = la) (BT : Box w tb 87 [.int .i64 (k : Int), .int .i64 (x : Int), .int .i64 (y : Int), .int .i64 2, .int .i64 (u : Int), .int .i64 (v : Int), .int .i64 (ww : Int), .int .i64 (r : Int), .bool false, .int .i64 (res : Int)]) (hne : g ≠ tb) (hu : u < la) (hv : v < la) (hw : ww < la) (hr : r < la) (hm : la ≤ 1000000) (e : el up ww = ww) :
    Calls Tryd.prog 80 #[.slice (some ⟨g, 0, none⟩) la ca, .pointer (some ⟨tb, 0, none⟩), .pointer (some ⟨tb, 4, none⟩), .int .i64 1] w fun e w' =>
      e = .returned (.bool true) ∧ Own w' g (up) ∧ Box w' tb 87 [.int .i64 (k : Int), .int .i64 (x : Int), .int .i64 (y : Int), .int .i64 2, .int .i64 (ww : Int), .int .i64 (v : Int), .int .i64 (ww : Int), .int .i64 (ww : Int), .bool false, .int .i64 (res : Int)] ∧ Two g tb w w' := by
  have HL := Lib.hid hl
  have HO := Lib.hid ho
  have HT := Lib.hid BT
  have htb := BT.lt
  have hg := ho.1
  have hne2 : tb ≠ g := Ne.symm hne
  have hu0 : (0 : Int) ≤ u := by omega
  have hu1 : (u : Int) < la := by omega
  have hv0 : (0 : Int) ≤ v := by omega
  have hv1 : (v : Int) < la := by omega
  have hw0 : (0 : Int) ≤ ww := by omega
  have hw1 : (ww : Int) < la := by omega
  obtain ⟨_, _, _, _, _, _, _, _, _, _⟩ := BT.ten
  obtain ⟨_, _, _, _, _, _, _, _, _, _⟩ := BT.tenf
  clear ho hl BT
  have HE := Lib.hid e
  have hs : ((ww : Int) == (ww : Int)) = true := by simp
  clear e
  go_enter Tryd.func80, Tryd.ntmps80
  go_wp2_with (go_at_call 91; (with_reducible refine (look_in _ _ _ up ww _ (HO.out.row (lo := 0) (hi := w.heap.size) HL.out (Nat.zero_le _) hg) hw hm).mono ?_); rw [HE.out]; rintro e w' ⟨rfl, rfl⟩)
  go_quiet (fail)
  go_wp2_with fail
  go_ret
  refine ⟨rfl, ?_, ?_, ?_⟩
  · (repeat refine Own.setOther ?_ (by assumption) _); exact HO.out
  · exact ((HT.out.set 7 (.int .i64 (ww : Int))).set 4 (.int .i64 (ww : Int)))
  · exact (((Two.refl g tb w).setCell (p := ⟨tb, 7, none⟩) (.inr rfl) _).drewN nq).setCell (p := ⟨tb, 4, none⟩) (.inr rfl) _

set_option maxRecDepth 100000 in
set_option maxHeartbeats 2000000 in
theorem find_11n (g la ca tb : Nat) (up : List Nat) (k x y u v ww r res : Nat) (w : World) (ho : Own w g up) (hl : up.length = la) (BT : Box w tb 87 [.int .i64 (k : Int), .int .i64 (x : Int), .int .i64 (y : Int), .int .i64 2, .int .i64 (u : Int), .int .i64 (v : Int), .int .i64 (ww : Int), .int .i64 (r : Int), .bool false, .int .i64 (res : Int)]) (hne : g ≠ tb) (hu : u < la) (hv : v < la) (hw : ww < la) (hr : r < la) (hm : la ≤ 1000000) (e : el up ww ≠ ww) :
    Calls Tryd.prog 80 #[.slice (some ⟨g, 0, none⟩) la ca, .pointer (some ⟨tb, 0, none⟩), .pointer (some ⟨tb, 4, none⟩), .int .i64 1] w fun e w' =>
      e = .returned (.bool false) ∧ Own w' g (up) ∧ Box w' tb 87 [.int .i64 (k : Int), .int .i64 (x : Int), .int .i64 (y : Int), .int .i64 3, .int .i64 (u : Int), .int .i64 (v : Int), .int .i64 (ww : Int), .int .i64 (el up ww : Int), .bool false, .int .i64 (res : Int)] ∧ Two g tb w w' := by
  have HL := Lib.hid hl
  have HO := Lib.hid ho
  have HT := Lib.hid BT
  have htb := BT.lt
  have hg := ho.1
  have hne2 : tb ≠ g := Ne.symm hne
  have hu0 : (0 : Int) ≤ u := by omega
  have hu1 : (u : Int) < la := by omega
  have hv0 : (0 : Int) ≤ v := by omega
  have hv1 : (v : Int) < la := by omega
  have hw0 : (0 : Int) ≤ ww := by omega
  have hw1 : (ww : Int) < la := by omega
  obtain ⟨_, _, _, _, _, _, _, _, _, _⟩ := BT.ten
  obtain ⟨_, _, _, _, _, _, _, _, _, _⟩ := BT.tenf
  clear ho hl BT
  obtain ⟨q, hq⟩ : ∃ q, el up ww = q := ⟨_, rfl⟩
  rw [hq] at e ⊢
  have HE := Lib.hid hq
  have hs : ((q : Int) == (ww : Int)) = false := by simp; omega
  clear e hq
  go_enter Tryd.func80, Tryd.ntmps80
  go_wp2_with (go_at_call 91; (with_reducible refine (look_in _ _ _ up ww _ (HO.out.row (lo := 0) (hi := w.heap.size) HL.out (Nat.zero_le _) hg) hw hm).mono ?_); rw [HE.out]; rintro e w' ⟨rfl, rfl⟩)
  go_quiet (fail)
  go_wp2_with fail
  go_ret
  refine ⟨rfl, ?_, ?_, ?_⟩
  · (repeat refine Own.setOther ?_ (by assumption) _); exact HO.out
  · exact ((HT.out.set 7 (.int .i64 (q : Int))).set 3 (.int .i64 3))
  · exact (((Two.refl g tb w).setCell (p := ⟨tb, 7, none⟩) (.inr rfl) _).drewN nq).setCell (p := ⟨tb, 3, none⟩) (.inr rfl) _

end Go.Proofs.YthhcchdjeeigpaaDoor
