/- Contracts of find, one way through it each. Contracts of find, one way through it each. Contracts of find, one way through it each. -/
import Derived.Test.YtpfcpeljfgmjgaaDoorZpe
import Derived.Deep.RegionWith
import Derived.Deep.CutRange
import Derived.Deep.RegionHeld3
namespace Go.Proofs.YtpfcpeljfgmjgaaDoor
open Go.RowKit
open Go.ChangeMaps (setBlock)
set_option linter.unusedVariables false
set_option linter.unusedSimpArgs false

set_option maxRecDepth 100000 in
set_option maxHeartbeats 2000000 in
theorem find_10y (g la ca tb : Nat) (up : List Nat) (k x y u v ww r res : Nat) (w : World) (ho : Own w g up) (hl : up.length = la) (BT : Box w tb 81 [.int .i64 (k : Int), .int .i64 (x : Int), .int .i64 (y : Int), .int .i64 1, .int .i64 (u : Int), .int .i64 (v : Int), .int .i64 (ww : Int), .int .i64 (r : Int), .bool false, .int .i64 (res : Int)]) (hne : g ≠ tb) (hu : u < la) (hv : v < la) (hw : ww < la) (hr : r < la) (hm : la ≤ 1000000) (e : el up u = u) :
    Calls Tryd.prog 103 #[.slice (some ⟨g, 0, none⟩) la ca, .pointer (some ⟨tb, 0, none⟩), .pointer (some ⟨tb, 4, none⟩), .int .i64 1] w fun e w' =>
      e = .returned (.bool true) ∧ Own w' g (up) ∧ Box w' tb 81 [.int .i64 (k : Int), .int .i64 (x : Int), .int .i64 (y : Int), .int .i64 1, .int .i64 (u : Int), .int .i64 (v : Int), .int .i64 (u : Int), .int .i64 (r : Int), .bool false, .int .i64 (res : Int)] ∧ Two g tb w w' := by
  have HL := Lib.hid hl
  have HO := Lib.hid ho
  have HT := Lib.hid BT
  have htb := BT.lt
  have hg := ho.1
  have hne2 : tb ≠ g := Ne.symm hne
  have hu0 : (0 : Int) ≤ u := by omega
  have hu1 : (u : Int) < la := by omega
  have hv0 : (0 : Int) ≤ v := by omega
  have hv1 : (v : Int) < la := by omega
  have hw0 : (0 : Int) ≤ ww := by omega
  have hw1 : (ww : Int) < la := by omega
  obtain ⟨_, _, _, _, _, _, _, _, _, _⟩ := BT.ten
  obtain ⟨_, _, _, _, _, _, _, _, _, _⟩ := BT.tenf
  clear ho hl BT
  have HE := Lib.hid e
  have hs : ((u : Int) == (u : Int)) = true := by simp
  clear e
  go_enter Tryd.func103, Tryd.ntmps103
  go_wp2_with (go_at_call 120; (with_reducible refine (look_in _ _ _ up u _ (HO.out.row (lo := 0) (hi := w.heap.size) HL.out (Nat.zero_le _) hg) hu hm).mono ?_); rw [HE.out]; rintro e w' ⟨rfl, rfl⟩)
  go_quiet (fail)
  go_wp2_with fail
  go_ret
  refine ⟨rfl, ?_, ?_, ?_⟩
  · (repeat refine Own.setOther ?_ (by assumption) _); exact HO.out
  · exact (HT.out.set 6 (.int .i64 (u : Int)))
  · exact ((Two.refl g tb w).setCell (p := ⟨tb, 6, none⟩) (.inr rfl) _).drewN nq

set_option maxRecDepth 100000 in
set_option maxHeartbeats 2000000 in
theorem find_10n (g la ca tb : Nat) (up : List Nat) (k x y u v ww r res : Nat) (w : World) (ho : Own w g up) (hl : up.length = la) (BT : Box w tb 81 [.int .i64 (k : Int), .int .i64 (x : Int), .int .i64 (y : Int), .int .i64 1, .int .i64 (u : Int), .int .i64 (v : Int), .int .i64 (ww : Int), .int .i64 (r : Int), .bool false, .int .i64 (res : Int)]) (hne : g ≠ tb) (hu : u < la) (hv : v < la) (hw : ww < la) (hr : r < la) (hm : la ≤ 1000000) (e : el up u ≠ u) :
    Calls Tryd.prog 103 #[.slice (some ⟨g, 0, none⟩) la ca, .pointer (some ⟨tb, 0, none⟩), .pointer (some ⟨tb, 4, none⟩), .int .i64 1] w fun e w' =>
      e = .returned (.bool false) ∧ Own w' g (up) ∧ Box w' tb 81 [.int .i64 (k : Int), .int .i64 (x : Int), .int .i64 (y : Int), .int .i64 2, .int .i64 (u : Int), .int .i64 (v : Int), .int .i64 (el up u : Int), .int .i64 (r : Int), .bool false, .int .i64 (res : Int)] ∧ Two g tb w w' := by
  have HL := Lib.hid hl
  have HO := Lib.hid ho
  have HT := Lib.hid BT
  have htb := BT.lt
  have hg := ho.1
  have hne2 : tb ≠ g := Ne.symm hne
  have hu0 : (0 : Int) ≤ u := by omega
  have hu1 : (u : Int) < la := by omega
  have hv0 : (0 : Int) ≤ v := by omega
  have hv1 : (v : Int) < la := by omega
  have hw0 : (0 : Int) ≤ ww := by omega
  have hw1 : (ww : Int) < la := by omega
  obtain ⟨_, _, _, _, _, _, _, _, _, _⟩ := BT.ten
  obtain ⟨_, _, _, _, _, _, _, _, _, _⟩ := BT.tenf
  clear ho hl BT
  obtain ⟨q, hq⟩ : ∃ q, el up u = q := ⟨_, rfl⟩
  rw [hq] at e ⊢
  have HE := Lib.hid hq
  have hs : ((q : Int) == (u : Int)) = false := by simp; omega
  clear e hq
  go_enter Tryd.func103, Tryd.ntmps103
  go_wp2_with (go_at_call 120; (with_reducible refine (look_in _ _ _ up u _ (HO.out.row (lo := 0) (hi := w.heap.size) HL.out (Nat.zero_le _) hg) hu hm).mono ?_); rw [HE.out]; rintro e w' ⟨rfl, rfl⟩)
  go_quiet (fail)
  go_wp2_with fail
  go_ret
  refine ⟨rfl, ?_, ?_, ?_⟩
  · (repeat refine Own.setOther ?_ (by assumption) _); exact HO.out
  · exact ((HT.out.set 6 (.int .i64 (q : Int))).set 3 (.int .i64 2))
  · exact (((Two.refl g tb w).setCell (p := ⟨tb, 6, none⟩) (.inr rfl) _).drewN nq).setCell (p := ⟨tb, 3, none⟩) (.inr rfl) _

set_option maxRecDepth 100000 in
set_option maxHeartbeats 2000000 in
theorem find_11y (g la ca tb : Nat) (up : List Nat) (k x y u v ww r res : Nat) (w : World) (ho : Own w g up) (hl : up.length = la) (BT : Box w tb 81 [.int .i64 (k : Int), .int .i64 (x : Int), .int .i64 (y : Int), .int .i64 2, .int .i64 (u : Int), .int .i64 (v : Int), .int .i64 (ww : Int), .int .i64 (r : Int), .bool false, .int .i64 (res : Int)]) (hne : g ≠ tb) (hu : u < la) (hv : v < la) (hw : ww < la) (hr : r < la) (hm : la ≤ 1000000) (e : el up ww = ww) :
    Calls Tryd.prog 103 #[.slice (some ⟨g, 0, none⟩) la ca, .pointer (some ⟨tb, 0, none⟩), .pointer (some ⟨tb, 4, none⟩), .int .i64 1] w fun e w' =>
      e = .returned (.bool true) ∧ Own w' g (up) ∧ Box w' tb 81 [.int .i64 (k : Int), .int .i64 (x : Int), .int .i64 (y : Int), .int .i64 2, .int .i64 (ww : Int), .int .i64 (v : Int), .int .i64 (ww : Int), .int .i64 (ww : Int), .bool false, .int .i64 (res : Int)] ∧ Two g tb w w' := by
  have HL := Lib.hid hl
  have HO := Lib.hid ho
  have HT := Lib.hid BT
  have htb := BT.lt
  have hg := ho.1
  have hne2 : tb ≠ g := Ne.symm hne
  have hu0 : (0 : Int) ≤ u := by omega
  have hu1 : (u : Int) < la := by omega
  have hv0 : (0 : Int) ≤ v := by omega
  have hv1 : (v : Int) < la := by omega
  have hw0 : (0 : Int) ≤ ww := by omega
  have hw1 : (ww : Int) < la := by omega
  obtain ⟨_, _, _, _, _, _, _, _, _, _⟩ := BT.ten
  obtain ⟨_, _, _, _, _, _, _, _, _, _⟩ := BT.tenf
  clear ho hl BT
  have HE := Lib.hid e
  have hs : ((ww : Int) == (ww : Int)) = true := by simp
  clear e
  go_enter Tryd.func103, Tryd.ntmps103
  go_wp2_with (go_at_call 120; (with_reducible refine (look_in _ _ _ up ww _ (HO.out.row (lo := 0) (hi := w.heap.size) HL.out (Nat.zero_le _) hg) hw hm).mono ?_); rw [HE.out]; rintro e w' ⟨rfl, rfl⟩)
  go_quiet (fail)
  go_wp2_with fail
  go_ret
  refine ⟨rfl, ?_, ?_, ?_⟩
  · (repeat refine Own.setOther ?_ (by assumption) _); exact HO.out
  · exact ((HT.out.set 7 (.int .i64 (ww : Int))).set 4 (.int .i64 (ww : Int)))
  · exact (((Two.refl g tb w).setCell (p := ⟨tb, 7, none⟩) (.inr rfl) _).drewN nq).setCell (p := ⟨tb, 4, none⟩) (.inr rfl) _

set_option maxRecDepth 100000 in
set_option maxHeartbeats 2000000 in
theorem find_11n (g la ca tb : Nat) (up : List Nat) (k x y u v ww r res : Nat) (w : World) (ho : Own w g up) (hl : up.length = la) (BT : Box w tb 81 [.int .i64 (k : Int), .int .i64 (x : Int), .int .i64 (y : Int), .int .i64 2, .int .i64 (u : Int), .int .i64 (v : Int), .int .i64 (ww : Int), .int .i64 (r : Int), .bool false, .int .i64 (res : Int)]) (hne : g ≠ tb) (hu : u < la) (hv : v < la) (hw : ww < la) (hr : r < la) (hm : la ≤ 1000000) (e : el up ww ≠ ww) :
    Calls Tryd.prog 103 #[.slice (some ⟨g, 0, none⟩) la ca, .pointer (some ⟨tb, 0, none⟩), .pointer (some ⟨tb, 4, none⟩), .int .i64 1] w fun e w' =>
      e = .returned (.bool false) ∧ Own w' g (up) ∧ Box w' tb 81 [.int .i64 (k : Int), .int .i64 (x : Int), .int .i64 (y : Int), .int .i64 3, .int .i64 (u : Int), .int .i64 (v : Int), .int .i64 (ww : Int), .int .i64 (el up ww : Int), .bool false, .int .i64 (res : Int)] ∧ Two g tb w w' := by
  have HL := Lib.hid hl
  have HO := Lib.hid ho
  have HT := Lib.hid BT
  have htb := BT.lt
  have hg := ho.1
  have hne2 : tb ≠ g := Ne.symm hne
  have hu0 : (0 : Int) ≤ u := by omega
  have hu1 : (u : Int) < la := by omega
  have hv0 : (0 : Int) ≤ v := by omega
  have hv1 : (v : Int) < la := by omega
  have hw0 : (0 : Int) ≤ ww := by omega
  have hw1 : (ww : Int) < la := by omega
  obtain ⟨_, _, _, _, _, _, _, _, _, _⟩ := BT.ten
  obtain ⟨_, _, _, _, _, _, _, _, _, _⟩ := BT.tenf
  clear ho hl BT
  obtain ⟨q, hq⟩ : ∃ q, el up ww = q := ⟨_, rfl⟩
  rw [hq] at e ⊢
  have HE := Lib.hid hq
  have hs : ((q : Int) == (ww : Int)) = false := by simp; omega
  clear e hq
  go_enter Tryd.func103, Tryd.ntmps103
  go_wp2_with (go_at_call 120; (with_reducible refine (look_in _ _ _ up ww _ (HO.out.row (lo := 0) (hi := w.heap.size) HL.out (Nat.zero_le _) hg) hw hm).mono ?_); rw [HE.out]; rintro e w' ⟨rfl, rfl⟩)
  go_quiet (fail)
  go_wp2_with fail
  go_ret
  refine ⟨rfl, ?_, ?_, ?_⟩
  · (repeat refine Own.setOther ?_ (by assumption) _); exact HO.out
  · exact ((HT.out.set 7 (.int .i64 (q : Int))).set 3 (.int .i64 3))
  · exact (((Two.refl g tb w).setCell (p := ⟨tb, 7, none⟩) (.inr rfl) _).drewN nq).setCell (p := ⟨tb, 3, none⟩) (.inr rfl) _

end Go.Proofs.YtpfcpeljfgmjgaaDoor

namespace Go.Proofs.YtpfcpeljfgmjgaaDoor
open Go.RowKit
open Go.ChangeMaps (setBlock)
set_option linter.unusedVariables false
set_option linter.unusedSimpArgs false

set_option maxRecDepth 100000 in
set_option maxHeartbeats 2000000 in
theorem find_40y (g la ca tb : Nat) (up : List Nat) (k x y u v ww r res : Nat) (w : World) (ho : Own w g up) (hl : up.length = la) (BT : Box w tb 81 [.int .i64 (k : Int), .int .i64 (x : Int), .int .i64 (y : Int), .int .i64 4, .int .i64 (u : Int), .int .i64 (v : Int), .int .i64 (ww : Int), .int .i64 (r : Int), .bool false, .int .i64 (res : Int)]) (hne : g ≠ tb) (hu : u < la) (hv : v < la) (hw : ww < la) (hr : r < la) (hm : la ≤ 1000000) (e : el up v = v) :
    Calls Tryd.prog 103 #[.slice (some ⟨g, 0, none⟩) la ca, .pointer (some ⟨tb, 0, none⟩), .pointer (some ⟨tb, 5, none⟩), .int .i64 4] w fun e w' =>
      e = .returned (.bool true) ∧ Own w' g (up) ∧ Box w' tb 81 [.int .i64 (k : Int), .int .i64 (x : Int), .int .i64 (y : Int), .int .i64 4, .int .i64 (u : Int), .int .i64 (v : Int), .int .i64 (v : Int), .int .i64 (r : Int), .bool false, .int .i64 (res : Int)] ∧ Two g tb w w' := by
  have HL := Lib.hid hl
  have HO := Lib.hid ho
  have HT := Lib.hid BT
  have htb := BT.lt
  have hg := ho.1
  have hne2 : tb ≠ g := Ne.symm hne
  have hu0 : (0 : Int) ≤ u := by omega
  have hu1 : (u : Int) < la := by omega
  have hv0 : (0 : Int) ≤ v := by omega
  have hv1 : (v : Int) < la := by omega
  have hw0 : (0 : Int) ≤ ww := by omega
  have hw1 : (ww : Int) < la := by omega
  obtain ⟨_, _, _, _, _, _, _, _, _, _⟩ := BT.ten
  obtain ⟨_, _, _, _, _, _, _, _, _, _⟩ := BT.tenf
  clear ho hl BT
  have HE := Lib.hid e
  have hs : ((v : Int) == (v : Int)) = true := by simp
  clear e
  go_enter Tryd.func103, Tryd.ntmps103
  go_wp2_with (go_at_call 120; (with_reducible refine (look_in _ _ _ up v _ (HO.out.row (lo := 0) (hi := w.heap.size) HL.out (Nat.zero_le _) hg) hv hm).mono ?_); rw [HE.out]; rintro e w' ⟨rfl, rfl⟩)
  go_quiet (fail)
  go_wp2_with fail
  go_ret
  refine ⟨rfl, ?_, ?_, ?_⟩
  · (repeat refine Own.setOther ?_ (by assumption) _); exact HO.out
  · exact (HT.out.set 6 (.int .i64 (v : Int)))
  · exact ((Two.refl g tb w).setCell (p := ⟨tb, 6, none⟩) (.inr rfl) _).drewN nq

set_option maxRecDepth 100000 in
set_option maxHeartbeats 2000000 in
theorem find_40n (g la ca tb : Nat) (up : List Nat) (k x y u v ww r res : Nat) (w : World) (ho : Own w g up) (hl : up.length = la) (BT : Box w tb 81 [.int .i64 (k : Int), .int .i64 (x : Int), .int .i64 (y : Int), .int .i64 4, .int .i64 (u : Int), .int .i64 (v : Int), .int .i64 (ww : Int), .int .i64 (r : Int), .bool false, .int .i64 (res : Int)]) (hne : g ≠ tb) (hu : u < la) (hv : v < la) (hw : ww < la) (hr : r < la) (hm : la ≤ 1000000) (e : el up v ≠ v) :
    Calls Tryd.prog 103 #[.slice (some ⟨g, 0, none⟩) la ca, .pointer (some ⟨tb, 0, none⟩), .pointer (some ⟨tb, 5, none⟩), .int .i64 4] w fun e w' =>
      e = .returned (.bool false) ∧ Own w' g (up) ∧ Box w' tb 81 [.int .i64 (k : Int), .int .i64 (x : Int), .int .i64 (y : Int), .int .i64 5, .int .i64 (u : Int), .int .i64 (v : Int), .int .i64 (el up v : Int), .int .i64 (r : Int), .bool false, .int .i64 (res : Int)] ∧ Two g tb w w' := by
  have HL := Lib.hid hl
  have HO := Lib.hid ho
  have HT := Lib.hid BT
  have htb := BT.lt
  have hg := ho.1
  have hne2 : tb ≠ g := Ne.symm hne
  have hu0 : (0 : Int) ≤ u := by omega
  have hu1 : (u : Int) < la := by omega
  have hv0 : (0 : Int) ≤ v := by omega
  have hv1 : (v : Int) < la := by omega
  have hw0 : (0 : Int) ≤ ww := by omega
  have hw1 : (ww : Int) < la := by omega
  obtain ⟨_, _, _, _, _, _, _, _, _, _⟩ := BT.ten
  obtain ⟨_, _, _, _, _, _, _, _, _, _⟩ := BT.tenf
  clear ho hl BT
  obtain ⟨q, hq⟩ : ∃ q, el up v = q := ⟨_, rfl⟩
  rw [hq] at e ⊢
  have HE := Lib.hid hq
  have hs : ((q : Int) == (v : Int)) = false := by simp; omega
  clear e hq
  go_enter Tryd.func103, Tryd.ntmps103
  go_wp2_with (go_at_call 120; (with_reducible refine (look_in _ _ _ up v _ (HO.out.row (lo := 0) (hi := w.heap.size) HL.out (Nat.zero_le _) hg) hv hm).mono ?_); rw [HE.out]; rintro e w' ⟨rfl, rfl⟩)
  go_quiet (fail)
  go_wp2_with fail
  go_ret
  refine ⟨rfl, ?_, ?_, ?_⟩
  · (repeat refine Own.setOther ?_ (by assumption) _); exact HO.out
  · exact ((HT.out.set 6 (.int .i64 (q : Int))).set 3 (.int .i64 5))
  · exact (((Two.refl g tb w).setCell (p := ⟨tb, 6, none⟩) (.inr rfl) _).drewN nq).setCell (p := ⟨tb, 3, none⟩) (.inr rfl) _

set_option maxRecDepth 100000 in
set_option maxHeartbeats 2000000 in
theorem find_41y (g la ca tb : Nat) (up : List Nat) (k x y u v ww r res : Nat) (w : World) (ho : Own w g up) (hl : up.length = la) (BT : Box w tb 81 [.int .i64 (k : Int), .int .i64 (x : Int), .int .i64 (y : Int), .int .i64 5, .int .i64 (u : Int), .int .i64 (v : Int), .int .i64 (ww : Int), .int .i64 (r : Int), .bool false, .int .i64 (res : Int)]) (hne : g ≠ tb) (hu : u < la) (hv : v < la) (hw : ww < la) (hr : r < la) (hm : la ≤ 1000000) (e : el up ww = ww) :
    Calls Tryd.prog 103 #[.slice (some ⟨g, 0, none⟩) la ca, .pointer (some ⟨tb, 0, none⟩), .pointer (some ⟨tb, 5, none⟩), .int .i64 4] w fun e w' =>
      e = .returned (.bool true) ∧ Own w' g (up) ∧ Box w' tb 81 [.int .i64 (k : Int), .int .i64 (x : Int), .int .i64 (y : Int), .int .i64 5, .int .i64 (u : Int), .int .i64 (ww : Int), .int .i64 (ww : Int), .int .i64 (ww : Int), .bool false, .int .i64 (res : Int)] ∧ Two g tb w w' := by
  have HL := Lib.hid hl
  have HO := Lib.hid ho
  have HT := Lib.hid BT
  have htb := BT.lt
  have hg := ho.1
  have hne2 : tb ≠ g := Ne.symm hne
  have hu0 : (0 : Int) ≤ u := by omega
  have hu1 : (u : Int) < la := by omega
  have hv0 : (0 : Int) ≤ v := by omega
  have hv1 : (v : Int) < la := by omega
  have hw0 : (0 : Int) ≤ ww := by omega
  have hw1 : (ww : Int) < la := by omega
  obtain ⟨_, _, _, _, _, _, _, _, _, _⟩ := BT.ten
  obtain ⟨_, _, _, _, _, _, _, _, _, _⟩ := BT.tenf
  clear ho hl BT
  have HE := Lib.hid e
  have hs : ((ww : Int) == (ww : Int)) = true := by simp
  clear e
  go_enter Tryd.func103, Tryd.ntmps103
  go_wp2_with (go_at_call 120; (with_reducible refine (look_in _ _ _ up ww _ (HO.out.row (lo := 0) (hi := w.heap.size) HL.out (Nat.zero_le _) hg) hw hm).mono ?_); rw [HE.out]; rintro e w' ⟨rfl, rfl⟩)
  go_quiet (fail)
  go_wp2_with fail
  go_ret
  refine ⟨rfl, ?_, ?_, ?_⟩
  · (repeat refine Own.setOther ?_ (by assumption) _); exact HO.out
  · exact ((HT.out.set 7 (.int .i64 (ww : Int))).set 5 (.int .i64 (ww : Int)))
  · exact (((Two.refl g tb w).setCell (p := ⟨tb, 7, none⟩) (.inr rfl) _).drewN nq).setCell (p := ⟨tb, 5, none⟩) (.inr rfl) _

set_option maxRecDepth 100000 in
set_option maxHeartbeats 2000000 in
theorem find_41n (g la ca tb : Nat) (up : List Nat) (k x y u v ww r res : Nat) (w : World) (ho : Own w g up) (hl : up.length = la) (BT : Box w tb 81 [.int .i64 (k : Int), .int .i64 (x : Int), .int .i64 (y : Int), .int .i64 5, .int .i64 (u : Int), .int .i64 (v : Int), .int .i64 (ww : Int), .int .i64 (r : Int), .bool false, .int .i64 (res : Int)]) (hne : g ≠ tb) (hu : u < la) (hv : v < la) (hw : ww < la) (hr : r < la) (hm : la ≤ 1000000) (e : el up ww ≠ ww) :
    Calls Tryd.prog 103 #[.slice (some ⟨g, 0, none⟩) la ca, .pointer (some ⟨tb, 0, none⟩), .pointer (some ⟨tb, 5, none⟩), .int .i64 4] w fun e w' =>
      e = .returned (.bool false) ∧ Own w' g (up) ∧ Box w' tb 81 [.int .i64 (k : Int), .int .i64 (x : Int), .int .i64 (y : Int), .int .i64 6, .int .i64 (u : Int), .int .i64 (v : Int), .int .i64 (ww : Int), .int .i64 (el up ww : Int), .bool false, .int .i64 (res : Int)] ∧ Two g tb w w' := by
  have HL := Lib.hid hl
  have HO := Lib.hid ho
  have HT := Lib.hid BT
  have htb := BT.lt
  have hg := ho.1
  have hne2 : tb ≠ g := Ne.symm hne
  have hu0 : (0 : Int) ≤ u := by omega
  have hu1 : (u : Int) < la := by omega
  have hv0 : (0 : Int) ≤ v := by omega
  have hv1 : (v : Int) < la := by omega
  have hw0 : (0 : Int) ≤ ww := by omega
  have hw1 : (ww : Int) < la := by omega
  obtain ⟨_, _, _, _, _, _, _, _, _, _⟩ := BT.ten
  obtain ⟨_, _, _, _, _, _, _, _, _, _⟩ := BT.tenf
  clear ho hl BT
  obtain ⟨q, hq⟩ : ∃ q, el up ww = q := ⟨_, rfl⟩
  rw [hq] at e ⊢
  have HE := Lib.hid hq
  have hs : ((q : Int) == (ww : Int)) = false := by simp; omega
  clear e hq
  go_enter Tryd.func103, Tryd.ntmps103
  go_wp2_with (go_at_call 120; (with_reducible refine (look_in _ _ _ up ww _ (HO.out.row (lo := 0) (hi := w.heap.size) HL.out (Nat.zero_le _) hg) hw hm).mono ?_); rw [HE.out]; rintro e w' ⟨rfl, rfl⟩)
  go_quiet (fail)
  go_wp2_with fail
  go_ret
  refine ⟨rfl, ?_, ?_, ?_⟩
  · (repeat refine Own.setOther ?_ (by assumption) _); exact HO.out
  · exact ((HT.out.set 7 (.int .i64 (q : Int))).set 3 (.int .i64 6))
  · exact (((Two.refl g tb w).setCell (p := ⟨tb, 7, none⟩) (.inr rfl) _).drewN nq).setCell (p := ⟨tb, 3, none⟩) (.inr rfl) _

end Go.Proofs.YtpfcpeljfgmjgaaDoor

namespace Go.Proofs.YtpfcpeljfgmjgaaDoor
open Go.RowKit
open Go.ChangeMaps (setBlock)
set_option linter.unusedVariables false
set_option linter.unusedSimpArgs false

set_option maxRecDepth 100000 in
set_option maxHeartbeats 2000000 in
theorem find_12y (g la ca tb : Nat) (up : List Nat) (k x y u v ww r res : Nat) (w : World) (ho : Own w g up) (hl : up.length = la) (BT : Box w tb 81 [.int .i64 (k : Int), .int .i64 (x : Int), .int .i64 (y : Int), .int .i64 3, .int .i64 (u : Int), .int .i64 (v : Int), .int .i64 (ww : Int), .int .i64 (r : Int), .bool false, .int .i64 (res : Int)]) (hne : g ≠ tb) (hu : u < la) (hv : v < la) (hw : ww < la) (hr : r < la) (hm : la ≤ 1000000) (e : el up u = ww) :
    Calls Tryd.prog 103 #[.slice (some ⟨g, 0, none⟩) la ca, .pointer (some ⟨tb, 0, none⟩), .pointer (some ⟨tb, 4, none⟩), .int .i64 1] w fun e w' =>
      e = .returned (.bool false) ∧ Own w' g (up.set u r) ∧ Box w' tb 81 [.int .i64 (k : Int), .int .i64 (x : Int), .int .i64 (y : Int), .int .i64 1, .int .i64 (ww : Int), .int .i64 (v : Int), .int .i64 (ww : Int), .int .i64 (r : Int), .bool false, .int .i64 (res : Int)] ∧ Two g tb w w' := by
  have HL := Lib.hid hl
  have HO := Lib.hid ho
  have HT := Lib.hid BT
  have htb := BT.lt
  have hg := ho.1
  have hne2 : tb ≠ g := Ne.symm hne
  have hu0 : (0 : Int) ≤ u := by omega
  have hu1 : (u : Int) < la := by omega
  have hv0 : (0 : Int) ≤ v := by omega
  have hv1 : (v : Int) < la := by omega
  have hw0 : (0 : Int) ≤ ww := by omega
  have hw1 : (ww : Int) < la := by omega
  obtain ⟨_, _, _, _, _, _, _, _, _, _⟩ := BT.ten
  obtain ⟨_, _, _, _, _, _, _, _, _, _⟩ := BT.tenf
  clear ho hl BT
  have hmm := @run_makeMap Tryd.prog
  have HE := Lib.hid e
  clear e
  obtain ⟨kl, hkey⟩ := ch_key (a := (u : Int)) (b := (ww : Int)) (c := (r : Int)) (by unfold fits; omega) (by unfold fits; omega) (by unfold fits; omega)
  have E1 : (Instr.mapUpdate 195 (.map (some w.heap.size)) (.agg #[.int .i64 (u : Int), .int .i64 (ww : Int), .int .i64 (r : Int)]) (.int .i64 0)).run Tryd.prog (w.alloc (.map #[] 0)).drew = .ok () (w.alloc (oneMap (.agg #[.int .i64 (u : Int), .int .i64 (ww : Int), .int .i64 (r : Int)]) 0)).drew := by
    rw [run_fill (r := w.heap.size) (by exact heap_alloc_new _ _) hkey]; congr 1
    exact congrArg World.drew (setBlock_last w _ _)
  have HS0 : Hid (w.drew.cell? ⟨tb, 4, none⟩ = some (.int .i64 (u : Int)) ∧ w.drew.cell? ⟨tb, 6, none⟩ = some (.int .i64 (ww : Int)) ∧ w.drew.cell? ⟨tb, 7, none⟩ = some (.int .i64 (r : Int))) := ⟨HT.out.cell 4, HT.out.cell 6, HT.out.cell 7⟩
  have HA1 := HT.out.alloc (.map #[] 0)
  have HS1 : Hid ((w.alloc (.map #[] 0)).drew.cell? ⟨tb, 4, none⟩ = some (.int .i64 (u : Int)) ∧ (w.alloc (.map #[] 0)).drew.cell? ⟨tb, 6, none⟩ = some (.int .i64 (ww : Int)) ∧ (w.alloc (.map #[] 0)).drew.cell? ⟨tb, 7, none⟩ = some (.int .i64 (r : Int))) := ⟨HA1.cell 4, HA1.cell 6, HA1.cell 7⟩
  have HA2 := HT.out.alloc (oneMap (.agg #[.int .i64 (u : Int), .int .i64 (ww : Int), .int .i64 (r : Int)]) 0)
  have HS2 : Hid ((w.alloc (oneMap (.agg #[.int .i64 (u : Int), .int .i64 (ww : Int), .int .i64 (r : Int)]) 0)).drew.cell? ⟨tb, 4, none⟩ = some (.int .i64 (u : Int)) ∧ (w.alloc (oneMap (.agg #[.int .i64 (u : Int), .int .i64 (ww : Int), .int .i64 (r : Int)]) 0)).drew.cell? ⟨tb, 6, none⟩ = some (.int .i64 (ww : Int)) ∧ (w.alloc (oneMap (.agg #[.int .i64 (u : Int), .int .i64 (ww : Int), .int .i64 (r : Int)]) 0)).drew.cell? ⟨tb, 7, none⟩ = some (.int .i64 (r : Int))) := ⟨HA2.cell 4, HA2.cell 6, HA2.cell 7⟩
  have HC : Hid (Calls Tryd.prog 121 #[.map (some w.heap.size), .slice (some ⟨g, 0, none⟩) la ca] (w.alloc (oneMap (.agg #[.int .i64 (u : Int), .int .i64 (ww : Int), .int .i64 (r : Int)]) 0)).drew fun e w1 => e = .returned (.tuple #[]) ∧ Own w1 g (up.set u r) ∧ Box w1 tb 81 [.int .i64 (k : Int), .int .i64 (x : Int), .int .i64 (y : Int), .int .i64 3, .int .i64 (u : Int), .int .i64 (v : Int), .int .i64 (ww : Int), .int .i64 (r : Int), .bool false, .int .i64 (res : Int)] ∧ Two g tb w w1 ∧ (w1.cell? ⟨tb, 4, none⟩ = some (.int .i64 (u : Int)) ∧ w1.cell? ⟨tb, 6, none⟩ = some (.int .i64 (ww : Int)) ∧ w1.cell? ⟨tb, 7, none⟩ = some (.int .i64 (r : Int)))) :=
    (into_yes w.heap.size g la ca up u ww r (w.alloc (oneMap (.agg #[.int .i64 (u : Int), .int .i64 (ww : Int), .int .i64 (r : Int)]) 0)).drew (heap_alloc_new _ _) (HO.out.alloc _) HL.out hu hw hr HE.out hm (by omega)).mono fun e w1 ⟨h1, ho1, _, ht1⟩ => by
      have hb := ht1.box HA2.drew hne2 (by omega)
      exact ⟨h1, ho1, hb, ht1.fresh (b := tb), hb.cell 4, hb.cell 6, hb.cell 7⟩
  clear hkey HA1 HA2
  go_enter Tryd.func103, Tryd.ntmps103
  go_upto_region 2 with fail
  go_cut [8] from 9 to 98 (fun s8 wx => AfterInto g tb (up.set u r) w k x y 3 u v ww r res s8 wx)
  case first =>
    go_region_held3 (fun w' => w'.cell? ⟨tb, 4, none⟩ = some (.int .i64 (u : Int)) ∧ w'.cell? ⟨tb, 6, none⟩ = some (.int .i64 (ww : Int)) ∧ w'.cell? ⟨tb, 7, none⟩ = some (.int .i64 (r : Int)))
      (first
        | exact HS0.out
        | exact HS1.out
        | exact HS2.out
        | exact hS3)
      (first
        | (go_at_call 121; (refine (HC.out).mono ?_); rintro e w1 ⟨rfl, ho1, BT1, ht2, hS3⟩)
        | fail)
    all_goals (go_wp2_with fail; go_meet)
    all_goals exact ⟨rfl, ho1, BT1, ht2⟩
  case rest =>
    obtain ⟨rfl, ho1, BT1, ht2⟩ := hcut
    have HO1 := Lib.hid ho1
    have HT1 := Lib.hid BT1
    have hs1 := ht2.size
    have hg1 := ho1.1
    have htb1 := BT1.lt
    obtain ⟨_, _, _, _, _, _, _, _, _, _⟩ := BT1.ten
    obtain ⟨_, _, _, _, _, _, _, _, _, _⟩ := BT1.tenf
    have HT2 := Lib.hid ht2
    clear ht2 BT1 ho1
    go_wp2_with fail
    go_ret
    refine ⟨rfl, ?_, ?_, ?_⟩
    · (repeat refine Own.setOther ?_ (by assumption) _); exact HO1.out
    · exact (HT1.out.set 4 (.int .i64 (ww : Int))).set 3 (.int .i64 1)
    · exact (HT2.out.setCell (p := ⟨tb, 4, none⟩) (.inr rfl) _).setCell (p := ⟨tb, 3, none⟩) (.inr rfl) _

set_option maxRecDepth 100000 in
set_option maxHeartbeats 2000000 in
theorem find_12n (g la ca tb : Nat) (up : List Nat) (k x y u v ww r res : Nat) (w : World) (ho : Own w g up) (hl : up.length = la) (BT : Box w tb 81 [.int .i64 (k : Int), .int .i64 (x : Int), .int .i64 (y : Int), .int .i64 3, .int .i64 (u : Int), .int .i64 (v : Int), .int .i64 (ww : Int), .int .i64 (r : Int), .bool false, .int .i64 (res : Int)]) (hne : g ≠ tb) (hu : u < la) (hv : v < la) (hw : ww < la) (hr : r < la) (hm : la ≤ 1000000) (e : el up u ≠ ww) :
    Calls Tryd.prog 103 #[.slice (some ⟨g, 0, none⟩) la ca, .pointer (some ⟨tb, 0, none⟩), .pointer (some ⟨tb, 4, none⟩), .int .i64 1] w fun e w' =>
      e = .returned (.bool false) ∧ Own w' g (up) ∧ Box w' tb 81 [.int .i64 (k : Int), .int .i64 (x : Int), .int .i64 (y : Int), .int .i64 1, .int .i64 (ww : Int), .int .i64 (v : Int), .int .i64 (ww : Int), .int .i64 (r : Int), .bool false, .int .i64 (res : Int)] ∧ Two g tb w w' := by
  have HL := Lib.hid hl
  have HO := Lib.hid ho
  have HT := Lib.hid BT
  have htb := BT.lt
  have hg := ho.1
  have hne2 : tb ≠ g := Ne.symm hne
  have hu0 : (0 : Int) ≤ u := by omega
  have hu1 : (u : Int) < la := by omega
  have hv0 : (0 : Int) ≤ v := by omega
  have hv1 : (v : Int) < la := by omega
  have hw0 : (0 : Int) ≤ ww := by omega
  have hw1 : (ww : Int) < la := by omega
  obtain ⟨_, _, _, _, _, _, _, _, _, _⟩ := BT.ten
  obtain ⟨_, _, _, _, _, _, _, _, _, _⟩ := BT.tenf
  clear ho hl BT
  have hmm := @run_makeMap Tryd.prog
  have HE := Lib.hid e
  clear e
  obtain ⟨kl, hkey⟩ := ch_key (a := (u : Int)) (b := (ww : Int)) (c := (r : Int)) (by unfold fits; omega) (by unfold fits; omega) (by unfold fits; omega)
  have E1 : (Instr.mapUpdate 195 (.map (some w.heap.size)) (.agg #[.int .i64 (u : Int), .int .i64 (ww : Int), .int .i64 (r : Int)]) (.int .i64 0)).run Tryd.prog (w.alloc (.map #[] 0)).drew = .ok () (w.alloc (oneMap (.agg #[.int .i64 (u : Int), .int .i64 (ww : Int), .int .i64 (r : Int)]) 0)).drew := by
    rw [run_fill (r := w.heap.size) (by exact heap_alloc_new _ _) hkey]; congr 1
    exact congrArg World.drew (setBlock_last w _ _)
  have HS0 : Hid (w.drew.cell? ⟨tb, 4, none⟩ = some (.int .i64 (u : Int)) ∧ w.drew.cell? ⟨tb, 6, none⟩ = some (.int .i64 (ww : Int)) ∧ w.drew.cell? ⟨tb, 7, none⟩ = some (.int .i64 (r : Int))) := ⟨HT.out.cell 4, HT.out.cell 6, HT.out.cell 7⟩
  have HA1 := HT.out.alloc (.map #[] 0)
  have HS1 : Hid ((w.alloc (.map #[] 0)).drew.cell? ⟨tb, 4, none⟩ = some (.int .i64 (u : Int)) ∧ (w.alloc (.map #[] 0)).drew.cell? ⟨tb, 6, none⟩ = some (.int .i64 (ww : Int)) ∧ (w.alloc (.map #[] 0)).drew.cell? ⟨tb, 7, none⟩ = some (.int .i64 (r : Int))) := ⟨HA1.cell 4, HA1.cell 6, HA1.cell 7⟩
  have HA2 := HT.out.alloc (oneMap (.agg #[.int .i64 (u : Int), .int .i64 (ww : Int), .int .i64 (r : Int)]) 0)
  have HS2 : Hid ((w.alloc (oneMap (.agg #[.int .i64 (u : Int), .int .i64 (ww : Int), .int .i64 (r : Int)]) 0)).drew.cell? ⟨tb, 4, none⟩ = some (.int .i64 (u : Int)) ∧ (w.alloc (oneMap (.agg #[.int .i64 (u : Int), .int .i64 (ww : Int), .int .i64 (r : Int)]) 0)).drew.cell? ⟨tb, 6, none⟩ = some (.int .i64 (ww : Int)) ∧ (w.alloc (oneMap (.agg #[.int .i64 (u : Int), .int .i64 (ww : Int), .int .i64 (r : Int)]) 0)).drew.cell? ⟨tb, 7, none⟩ = some (.int .i64 (r : Int))) := ⟨HA2.cell 4, HA2.cell 6, HA2.cell 7⟩
  have HC : Hid (Calls Tryd.prog 121 #[.map (some w.heap.size), .slice (some ⟨g, 0, none⟩) la ca] (w.alloc (oneMap (.agg #[.int .i64 (u : Int), .int .i64 (ww : Int), .int .i64 (r : Int)]) 0)).drew fun e w1 => e = .returned (.tuple #[]) ∧ Own w1 g (up) ∧ Box w1 tb 81 [.int .i64 (k : Int), .int .i64 (x : Int), .int .i64 (y : Int), .int .i64 3, .int .i64 (u : Int), .int .i64 (v : Int), .int .i64 (ww : Int), .int .i64 (r : Int), .bool false, .int .i64 (res : Int)] ∧ Two g tb w w1 ∧ (w1.cell? ⟨tb, 4, none⟩ = some (.int .i64 (u : Int)) ∧ w1.cell? ⟨tb, 6, none⟩ = some (.int .i64 (ww : Int)) ∧ w1.cell? ⟨tb, 7, none⟩ = some (.int .i64 (r : Int)))) :=
    (into_no w.heap.size g la ca up u ww r (w.alloc (oneMap (.agg #[.int .i64 (u : Int), .int .i64 (ww : Int), .int .i64 (r : Int)]) 0)).drew (heap_alloc_new _ _) (HO.out.alloc _) HL.out hu hw hr HE.out hm (by omega)).mono fun e w1 ⟨h1, ho1, _, ht1⟩ => by
      have hb := ht1.box HA2.drew hne2 (by omega)
      exact ⟨h1, ho1, hb, ht1.fresh (b := tb), hb.cell 4, hb.cell 6, hb.cell 7⟩
  clear hkey HA1 HA2
  go_enter Tryd.func103, Tryd.ntmps103
  go_upto_region 2 with fail
  go_cut [8] from 9 to 98 (fun s8 wx => AfterInto g tb (up) w k x y 3 u v ww r res s8 wx)
  case first =>
    go_region_held3 (fun w' => w'.cell? ⟨tb, 4, none⟩ = some (.int .i64 (u : Int)) ∧ w'.cell? ⟨tb, 6, none⟩ = some (.int .i64 (ww : Int)) ∧ w'.cell? ⟨tb, 7, none⟩ = some (.int .i64 (r : Int)))
      (first
        | exact HS0.out
        | exact HS1.out
        | exact HS2.out
        | exact hS3)
      (first
        | (go_at_call 121; (refine (HC.out).mono ?_); rintro e w1 ⟨rfl, ho1, BT1, ht2, hS3⟩)
        | fail)
    all_goals (go_wp2_with fail; go_meet)
    all_goals exact ⟨rfl, ho1, BT1, ht2⟩
  case rest =>
    obtain ⟨rfl, ho1, BT1, ht2⟩ := hcut
    have HO1 := Lib.hid ho1
    have HT1 := Lib.hid BT1
    have hs1 := ht2.size
    have hg1 := ho1.1
    have htb1 := BT1.lt
    obtain ⟨_, _, _, _, _, _, _, _, _, _⟩ := BT1.ten
    obtain ⟨_, _, _, _, _, _, _, _, _, _⟩ := BT1.tenf
    have HT2 := Lib.hid ht2
    clear ht2 BT1 ho1
    go_wp2_with fail
    go_ret
    refine ⟨rfl, ?_, ?_, ?_⟩
    · (repeat refine Own.setOther ?_ (by assumption) _); exact HO1.out
    · exact (HT1.out.set 4 (.int .i64 (ww : Int))).set 3 (.int .i64 1)
    · exact (HT2.out.setCell (p := ⟨tb, 4, none⟩) (.inr rfl) _).setCell (p := ⟨tb, 3, none⟩) (.inr rfl) _

set_option maxRecDepth 100000 in
set_option maxHeartbeats 2000000 in
theorem find_42y (g la ca tb : Nat) (up : List Nat) (k x y u v ww r res : Nat) (w : World) (ho : Own w g up) (hl : up.length = la) (BT : Box w tb 81 [.int .i64 (k : Int), .int .i64 (x : Int), .int .i64 (y : Int), .int .i64 6, .int .i64 (u : Int), .int .i64 (v : Int), .int .i64 (ww : Int), .int .i64 (r : Int), .bool false, .int .i64 (res : Int)]) (hne : g ≠ tb) (hu : u < la) (hv : v < la) (hw : ww < la) (hr : r < la) (hm : la ≤ 1000000) (e : el up v = ww) :
    Calls Tryd.prog 103 #[.slice (some ⟨g, 0, none⟩) la ca, .pointer (some ⟨tb, 0, none⟩), .pointer (some ⟨tb, 5, none⟩), .int .i64 4] w fun e w' =>
      e = .returned (.bool false) ∧ Own w' g (up.set v r) ∧ Box w' tb 81 [.int .i64 (k : Int), .int .i64 (x : Int), .int .i64 (y : Int), .int .i64 4, .int .i64 (u : Int), .int .i64 (ww : Int), .int .i64 (ww : Int), .int .i64 (r : Int), .bool false, .int .i64 (res : Int)] ∧ Two g tb w w' := by
  have HL := Lib.hid hl
  have HO := Lib.hid ho
  have HT := Lib.hid BT
  have htb := BT.lt
  have hg := ho.1
  have hne2 : tb ≠ g := Ne.symm hne
  have hu0 : (0 : Int) ≤ u := by omega
  have hu1 : (u : Int) < la := by omega
  have hv0 : (0 : Int) ≤ v := by omega
  have hv1 : (v : Int) < la := by omega
  have hw0 : (0 : Int) ≤ ww := by omega
  have hw1 : (ww : Int) < la := by omega
  obtain ⟨_, _, _, _, _, _, _, _, _, _⟩ := BT.ten
  obtain ⟨_, _, _, _, _, _, _, _, _, _⟩ := BT.tenf
  clear ho hl BT
  have hmm := @run_makeMap Tryd.prog
  have HE := Lib.hid e
  clear e
  obtain ⟨kl, hkey⟩ := ch_key (a := (v : Int)) (b := (ww : Int)) (c := (r : Int)) (by unfold fits; omega) (by unfold fits; omega) (by unfold fits; omega)
  have E1 : (Instr.mapUpdate 195 (.map (some w.heap.size)) (.agg #[.int .i64 (v : Int), .int .i64 (ww : Int), .int .i64 (r : Int)]) (.int .i64 0)).run Tryd.prog (w.alloc (.map #[] 0)).drew = .ok () (w.alloc (oneMap (.agg #[.int .i64 (v : Int), .int .i64 (ww : Int), .int .i64 (r : Int)]) 0)).drew := by
    rw [run_fill (r := w.heap.size) (by exact heap_alloc_new _ _) hkey]; congr 1
    exact congrArg World.drew (setBlock_last w _ _)
  have HS0 : Hid (w.drew.cell? ⟨tb, 5, none⟩ = some (.int .i64 (v : Int)) ∧ w.drew.cell? ⟨tb, 6, none⟩ = some (.int .i64 (ww : Int)) ∧ w.drew.cell? ⟨tb, 7, none⟩ = some (.int .i64 (r : Int))) := ⟨HT.out.cell 5, HT.out.cell 6, HT.out.cell 7⟩
  have HA1 := HT.out.alloc (.map #[] 0)
  have HS1 : Hid ((w.alloc (.map #[] 0)).drew.cell? ⟨tb, 5, none⟩ = some (.int .i64 (v : Int)) ∧ (w.alloc (.map #[] 0)).drew.cell? ⟨tb, 6, none⟩ = some (.int .i64 (ww : Int)) ∧ (w.alloc (.map #[] 0)).drew.cell? ⟨tb, 7, none⟩ = some (.int .i64 (r : Int))) := ⟨HA1.cell 5, HA1.cell 6, HA1.cell 7⟩
  have HA2 := HT.out.alloc (oneMap (.agg #[.int .i64 (v : Int), .int .i64 (ww : Int), .int .i64 (r : Int)]) 0)
  have HS2 : Hid ((w.alloc (oneMap (.agg #[.int .i64 (v : Int), .int .i64 (ww : Int), .int .i64 (r : Int)]) 0)).drew.cell? ⟨tb, 5, none⟩ = some (.int .i64 (v : Int)) ∧ (w.alloc (oneMap (.agg #[.int .i64 (v : Int), .int .i64 (ww : Int), .int .i64 (r : Int)]) 0)).drew.cell? ⟨tb, 6, none⟩ = some (.int .i64 (ww : Int)) ∧ (w.alloc (oneMap (.agg #[.int .i64 (v : Int), .int .i64 (ww : Int), .int .i64 (r : Int)]) 0)).drew.cell? ⟨tb, 7, none⟩ = some (.int .i64 (r : Int))) := ⟨HA2.cell 5, HA2.cell 6, HA2.cell 7⟩
  have HC : Hid (Calls Tryd.prog 121 #[.map (some w.heap.size), .slice (some ⟨g, 0, none⟩) la ca] (w.alloc (oneMap (.agg #[.int .i64 (v : Int), .int .i64 (ww : Int), .int .i64 (r : Int)]) 0)).drew fun e w1 => e = .returned (.tuple #[]) ∧ Own w1 g (up.set v r) ∧ Box w1 tb 81 [.int .i64 (k : Int), .int .i64 (x : Int), .int .i64 (y : Int), .int .i64 6, .int .i64 (u : Int), .int .i64 (v : Int), .int .i64 (ww : Int), .int .i64 (r : Int), .bool false, .int .i64 (res : Int)] ∧ Two g tb w w1 ∧ (w1.cell? ⟨tb, 5, none⟩ = some (.int .i64 (v : Int)) ∧ w1.cell? ⟨tb, 6, none⟩ = some (.int .i64 (ww : Int)) ∧ w1.cell? ⟨tb, 7, none⟩ = some (.int .i64 (r : Int)))) :=
    (into_yes w.heap.size g la ca up v ww r (w.alloc (oneMap (.agg #[.int .i64 (v : Int), .int .i64 (ww : Int), .int .i64 (r : Int)]) 0)).drew (heap_alloc_new _ _) (HO.out.alloc _) HL.out hv hw hr HE.out hm (by omega)).mono fun e w1 ⟨h1, ho1, _, ht1⟩ => by
      have hb := ht1.box HA2.drew hne2 (by omega)
      exact ⟨h1, ho1, hb, ht1.fresh (b := tb), hb.cell 5, hb.cell 6, hb.cell 7⟩
  clear hkey HA1 HA2
  go_enter Tryd.func103, Tryd.ntmps103
  go_upto_region 2 with fail
  go_cut [8] from 9 to 98 (fun s8 wx => AfterInto g tb (up.set v r) w k x y 6 u v ww r res s8 wx)
  case first =>
    go_region_held3 (fun w' => w'.cell? ⟨tb, 5, none⟩ = some (.int .i64 (v : Int)) ∧ w'.cell? ⟨tb, 6, none⟩ = some (.int .i64 (ww : Int)) ∧ w'.cell? ⟨tb, 7, none⟩ = some (.int .i64 (r : Int)))
      (first
        | exact HS0.out
        | exact HS1.out
        | exact HS2.out
        | exact hS3)
      (first
        | (go_at_call 121; (refine (HC.out).mono ?_); rintro e w1 ⟨rfl, ho1, BT1, ht2, hS3⟩)
        | fail)
    all_goals (go_wp2_with fail; go_meet)
    all_goals exact ⟨rfl, ho1, BT1, ht2⟩
  case rest =>
    obtain ⟨rfl, ho1, BT1, ht2⟩ := hcut
    have HO1 := Lib.hid ho1
    have HT1 := Lib.hid BT1
    have hs1 := ht2.size
    have hg1 := ho1.1
    have htb1 := BT1.lt
    obtain ⟨_, _, _, _, _, _, _, _, _, _⟩ := BT1.ten
    obtain ⟨_, _, _, _, _, _, _, _, _, _⟩ := BT1.tenf
    have HT2 := Lib.hid ht2
    clear ht2 BT1 ho1
    go_wp2_with fail
    go_ret
    refine ⟨rfl, ?_, ?_, ?_⟩
    · (repeat refine Own.setOther ?_ (by assumption) _); exact HO1.out
    · exact (HT1.out.set 5 (.int .i64 (ww : Int))).set 3 (.int .i64 4)
    · exact (HT2.out.setCell (p := ⟨tb, 5, none⟩) (.inr rfl) _).setCell (p := ⟨tb, 3, none⟩) (.inr rfl) _

set_option maxRecDepth 100000 in
set_option maxHeartbeats 2000000 in
theorem find_42n (g la ca tb : Nat) (up : List Nat) (k x y u v ww r res : Nat) (w : World) (ho : Own w g up) (hl : up.length = la) (BT : Box w tb 81 [.int .i64 (k : Int), .int .i64 (x : Int), .int .i64 (y : Int), .int .i64 6, .int .i64 (u : Int), .int .i64 (v : Int), .int .i64 (ww : Int), .int .i64 (r : Int), .bool false, .int .i64 (res : Int)]) (hne : g ≠ tb) (hu : u < la) (hv : v < la) (hw : ww < la) (hr : r < la) (hm : la ≤ 1000000) (e : el up v ≠ ww) :
    Calls Tryd.prog 103 #[.slice (some ⟨g, 0, none⟩) la ca, .pointer (some ⟨tb, 0, none⟩), .pointer (some ⟨tb, 5, none⟩), .int .i64 4] w fun e w' =>
      e = .returned (.bool false) ∧ Own w' g (up) ∧ Box w' tb 81 [.int .i64 (k : Int), .int .i64 (x : Int), .int .i64 (y : Int), .int .i64 4, .int .i64 (u : Int), .int .i64 (ww : Int), .int .i64 (ww : Int), .int .i64 (r : Int), .bool false, .int .i64 (res : Int)] ∧ Two g tb w w' := by
  have HL := Lib.hid hl
  have HO := Lib.hid ho
  have HT := Lib.hid BT
  have htb := BT.lt
  have hg := ho.1
  have hne2 : tb ≠ g := Ne.symm hne
  have hu0 : (0 : Int) ≤ u := by omega
  have hu1 : (u : Int) < la := by omega
  have hv0 : (0 : Int) ≤ v := by omega
  have hv1 : (v : Int) < la := by omega
  have hw0 : (0 : Int) ≤ ww := by omega
  have hw1 : (ww : Int) < la := by omega
  obtain ⟨_, _, _, _, _, _, _, _, _, _⟩ := BT.ten
  obtain ⟨_, _, _, _, _, _, _, _, _, _⟩ := BT.tenf
  clear ho hl BT
  have hmm := @run_makeMap Tryd.prog
  have HE := Lib.hid e
  clear e
  obtain ⟨kl, hkey⟩ := ch_key (a := (v : Int)) (b := (ww : Int)) (c := (r : Int)) (by unfold fits; omega) (by unfold fits; omega) (by unfold fits; omega)
  have E1 : (Instr.mapUpdate 195 (.map (some w.heap.size)) (.agg #[.int .i64 (v : Int), .int .i64 (ww : Int), .int .i64 (r : Int)]) (.int .i64 0)).run Tryd.prog (w.alloc (.map #[] 0)).drew = .ok () (w.alloc (oneMap (.agg #[.int .i64 (v : Int), .int .i64 (ww : Int), .int .i64 (r : Int)]) 0)).drew := by
    rw [run_fill (r := w.heap.size) (by exact heap_alloc_new _ _) hkey]; congr 1
    exact congrArg World.drew (setBlock_last w _ _)
  have HS0 : Hid (w.drew.cell? ⟨tb, 5, none⟩ = some (.int .i64 (v : Int)) ∧ w.drew.cell? ⟨tb, 6, none⟩ = some (.int .i64 (ww : Int)) ∧ w.drew.cell? ⟨tb, 7, none⟩ = some (.int .i64 (r : Int))) := ⟨HT.out.cell 5, HT.out.cell 6, HT.out.cell 7⟩
  have HA1 := HT.out.alloc (.map #[] 0)
  have HS1 : Hid ((w.alloc (.map #[] 0)).drew.cell? ⟨tb, 5, none⟩ = some (.int .i64 (v : Int)) ∧ (w.alloc (.map #[] 0)).drew.cell? ⟨tb, 6, none⟩ = some (.int .i64 (ww : Int)) ∧ (w.alloc (.map #[] 0)).drew.cell? ⟨tb, 7, none⟩ = some (.int .i64 (r : Int))) := ⟨HA1.cell 5, HA1.cell 6, HA1.cell 7⟩
  have HA2 := HT.out.alloc (oneMap (.agg #[.int .i64 (v : Int), .int .i64 (ww : Int), .int .i64 (r : Int)]) 0)
  have HS2 : Hid ((w.alloc (oneMap (.agg #[.int .i64 (v : Int), .int .i64 (ww : Int), .int .i64 (r : Int)]) 0)).drew.cell? ⟨tb, 5, none⟩ = some (.int .i64 (v : Int)) ∧ (w.alloc (oneMap (.agg #[.int .i64 (v : Int), .int .i64 (ww : Int), .int .i64 (r : Int)]) 0)).drew.cell? ⟨tb, 6, none⟩ = some (.int .i64 (ww : Int)) ∧ (w.alloc (oneMap (.agg #[.int .i64 (v : Int), .int .i64 (ww : Int), .int .i64 (r : Int)]) 0)).drew.cell? ⟨tb, 7, none⟩ = some (.int .i64 (r : Int))) := ⟨HA2.cell 5, HA2.cell 6, HA2.cell 7⟩
  have HC : Hid (Calls Tryd.prog 121 #[.map (some w.heap.size), .slice (some ⟨g, 0, none⟩) la ca] (w.alloc (oneMap (.agg #[.int .i64 (v : Int), .int .i64 (ww : Int), .int .i64 (r : Int)]) 0)).drew fun e w1 => e = .returned (.tuple #[]) ∧ Own w1 g (up) ∧ Box w1 tb 81 [.int .i64 (k : Int), .int .i64 (x : Int), .int .i64 (y : Int), .int .i64 6, .int .i64 (u : Int), .int .i64 (v : Int), .int .i64 (ww : Int), .int .i64 (r : Int), .bool false, .int .i64 (res : Int)] ∧ Two g tb w w1 ∧ (w1.cell? ⟨tb, 5, none⟩ = some (.int .i64 (v : Int)) ∧ w1.cell? ⟨tb, 6, none⟩ = some (.int .i64 (ww : Int)) ∧ w1.cell? ⟨tb, 7, none⟩ = some (.int .i64 (r : Int)))) :=
    (into_no w.heap.size g la ca up v ww r (w.alloc (oneMap (.agg #[.int .i64 (v : Int), .int .i64 (ww : Int), .int .i64 (r : Int)]) 0)).drew (heap_alloc_new _ _) (HO.out.alloc _) HL.out hv hw hr HE.out hm (by omega)).mono fun e w1 ⟨h1, ho1, _, ht1⟩ => by
      have hb := ht1.box HA2.drew hne2 (by omega)
      exact ⟨h1, ho1, hb, ht1.fresh (b := tb), hb.cell 5, hb.cell 6, hb.cell 7⟩
  clear hkey HA1 HA2
  go_enter Tryd.func103, Tryd.ntmps103
  go_upto_region 2 with fail
  go_cut [8] from 9 to 98 (fun s8 wx => AfterInto g tb (up) w k x y 6 u v ww r res s8 wx)
  case first =>
    go_region_held3 (fun w' => w'.cell? ⟨tb, 5, none⟩ = some (.int .i64 (v : Int)) ∧ w'.cell? ⟨tb, 6, none⟩ = some (.int .i64 (ww : Int)) ∧ w'.cell? ⟨tb, 7, none⟩ = some (.int .i64 (r : Int)))
      (first
        | exact HS0.out
        | exact HS1.out
        | exact HS2.out
        | exact hS3)
      (first
        | (go_at_call 121; (refine (HC.out).mono ?_); rintro e w1 ⟨rfl, ho1, BT1, ht2, hS3⟩)
        | fail)
    all_goals (go_wp2_with fail; go_meet)
    all_goals exact ⟨rfl, ho1, BT1, ht2⟩
  case rest =>
    obtain ⟨rfl, ho1, BT1, ht2⟩ := hcut
    have HO1 := Lib.hid ho1
    have HT1 := Lib.hid BT1
    have hs1 := ht2.size
    have hg1 := ho1.1
    have htb1 := BT1.lt
    obtain ⟨_, _, _, _, _, _, _, _, _, _⟩ := BT1.ten
    obtain ⟨_, _, _, _, _, _, _, _, _, _⟩ := BT1.tenf
    have HT2 := Lib.hid ht2
    clear ht2 BT1 ho1
    go_wp2_with fail
    go_ret
    refine ⟨rfl, ?_, ?_, ?_⟩
    · (repeat refine Own.setOther ?_ (by assumption) _); exact HO1.out
    · exact (HT1.out.set 5 (.int .i64 (ww : Int))).set 3 (.int .i64 4)
    · exact (HT2.out.setCell (p := ⟨tb, 5, none⟩) (.inr rfl) _).setCell (p := ⟨tb, 3, none⟩) (.inr rfl) _

end Go.Proofs.YtpfcpeljfgmjgaaDoor
