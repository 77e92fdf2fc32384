/- Contracts of find of a task whose Y and V are any numbers Contracts of Step at the first find, of a task whose Y and V are any numbers Contracts of the document's Step at the first find, of a task whose Y and V are any numbers -/
import Derived.Test.YtpfcpeljfgmjgaaDoorZpe
import Derived.Deep.RegionWith
import Derived.Deep.CutRange
import Derived.Deep.RegionHeld3
import Derived.RegionTactic
import Derived.BigRegion
import Derived.Test.YtpfcpeljfgmjgaaDoorZpc
namespace Go.Proofs.YtpfcpeljfgmjgaaDoor
open Go.RowKit
open Go.ChangeMaps (setBlock)
set_option linter.unusedVariables false
set_option linter.unusedSimpArgs false

def jAfterInto (g tb : Nat) (up : List Nat) (w : World) (k x : Nat) (y : Int) (st u : Nat) (v : Int) (ww r res : Nat) (s8 : Value) (wx : World) : Prop :=
  s8 = .bool false ∧ Own wx g up ∧ Box wx tb 81 [.int .i64 (k : Int), .int .i64 (x : Int), .int .i64 (y : Int), .int .i64 (st : Int), .int .i64 (u : Int), .int .i64 (v : Int), .int .i64 (ww : Int), .int .i64 (r : Int), .bool false, .int .i64 (res : Int)] ∧ Two g tb w wx

set_option maxRecDepth 100000 in
set_option maxHeartbeats 2000000 in
theorem jfind_10y (g la ca tb : Nat) (up : List Nat) (k x : Nat) (y : Int) (u : Nat) (v : Int) (ww r res : Nat) (w : World) (ho : Own w g up) (hl : up.length = la) (BT : Box w tb 81 [.int .i64 (k : Int), .int .i64 (x : Int), .int .i64 (y : Int), .int .i64 1, .int .i64 (u : Int), .int .i64 (v : Int), .int .i64 (ww : Int), .int .i64 (r : Int), .bool false, .int .i64 (res : Int)]) (hne : g ≠ tb) (hu : u < la) (hw : ww < la) (hr : r < la) (hm : la ≤ 1000000) (e : el up u = u) :
    Calls Tryd.prog 103 #[.slice (some ⟨g, 0, none⟩) la ca, .pointer (some ⟨tb, 0, none⟩), .pointer (some ⟨tb, 4, none⟩), .int .i64 1] w fun e w' =>
      e = .returned (.bool true) ∧ Own w' g (up) ∧ Box w' tb 81 [.int .i64 (k : Int), .int .i64 (x : Int), .int .i64 (y : Int), .int .i64 1, .int .i64 (u : Int), .int .i64 (v : Int), .int .i64 (u : Int), .int .i64 (r : Int), .bool false, .int .i64 (res : Int)] ∧ Two g tb w w' := by
  have HL := Lib.hid hl
  have HO := Lib.hid ho
  have HT := Lib.hid BT
  have htb := BT.lt
  have hg := ho.1
  have hne2 : tb ≠ g := Ne.symm hne
  have hu0 : (0 : Int) ≤ u := by omega
  have hu1 : (u : Int) < la := by omega
  have hw0 : (0 : Int) ≤ ww := by omega
  have hw1 : (ww : Int) < la := by omega
  obtain ⟨_, _, _, _, _, _, _, _, _, _⟩ := BT.ten
  obtain ⟨_, _, _, _, _, _, _, _, _, _⟩ := BT.tenf
  clear ho hl BT
  have HE := Lib.hid e
  have hs : ((u : Int) == (u : Int)) = true := by simp
  clear e
  go_enter Tryd.func103, Tryd.ntmps103
  go_wp2_with (go_at_call 120; (with_reducible refine (look_in _ _ _ up u _ (HO.out.row (lo := 0) (hi := w.heap.size) HL.out (Nat.zero_le _) hg) hu hm).mono ?_); rw [HE.out]; rintro e w' ⟨rfl, rfl⟩)
  go_quiet (fail)
  go_wp2_with fail
  go_ret
  refine ⟨rfl, ?_, ?_, ?_⟩
  · (repeat refine Own.setOther ?_ (by assumption) _); exact HO.out
  · exact (HT.out.set 6 (.int .i64 (u : Int)))
  · exact ((Two.refl g tb w).setCell (p := ⟨tb, 6, none⟩) (.inr rfl) _).drewN nq

set_option maxRecDepth 100000 in
set_option maxHeartbeats 2000000 in
theorem jfind_10n (g la ca tb : Nat) (up : List Nat) (k x : Nat) (y : Int) (u : Nat) (v : Int) (ww r res : Nat) (w : World) (ho : Own w g up) (hl : up.length = la) (BT : Box w tb 81 [.int .i64 (k : Int), .int .i64 (x : Int), .int .i64 (y : Int), .int .i64 1, .int .i64 (u : Int), .int .i64 (v : Int), .int .i64 (ww : Int), .int .i64 (r : Int), .bool false, .int .i64 (res : Int)]) (hne : g ≠ tb) (hu : u < la) (hw : ww < la) (hr : r < la) (hm : la ≤ 1000000) (e : el up u ≠ u) :
    Calls Tryd.prog 103 #[.slice (some ⟨g, 0, none⟩) la ca, .pointer (some ⟨tb, 0, none⟩), .pointer (some ⟨tb, 4, none⟩), .int .i64 1] w fun e w' =>
      e = .returned (.bool false) ∧ Own w' g (up) ∧ Box w' tb 81 [.int .i64 (k : Int), .int .i64 (x : Int), .int .i64 (y : Int), .int .i64 2, .int .i64 (u : Int), .int .i64 (v : Int), .int .i64 (el up u : Int), .int .i64 (r : Int), .bool false, .int .i64 (res : Int)] ∧ Two g tb w w' := by
  have HL := Lib.hid hl
  have HO := Lib.hid ho
  have HT := Lib.hid BT
  have htb := BT.lt
  have hg := ho.1
  have hne2 : tb ≠ g := Ne.symm hne
  have hu0 : (0 : Int) ≤ u := by omega
  have hu1 : (u : Int) < la := by omega
  have hw0 : (0 : Int) ≤ ww := by omega
  have hw1 : (ww : Int) < la := by omega
  obtain ⟨_, _, _, _, _, _, _, _, _, _⟩ := BT.ten
  obtain ⟨_, _, _, _, _, _, _, _, _, _⟩ := BT.tenf
  clear ho hl BT
  obtain ⟨q, hq⟩ : ∃ q, el up u = q := ⟨_, rfl⟩
  rw [hq] at e ⊢
  have HE := Lib.hid hq
  have hs : ((q : Int) == (u : Int)) = false := by simp; omega
  clear e hq
  go_enter Tryd.func103, Tryd.ntmps103
  go_wp2_with (go_at_call 120; (with_reducible refine (look_in _ _ _ up u _ (HO.out.row (lo := 0) (hi := w.heap.size) HL.out (Nat.zero_le _) hg) hu hm).mono ?_); rw [HE.out]; rintro e w' ⟨rfl, rfl⟩)
  go_quiet (fail)
  go_wp2_with fail
  go_ret
  refine ⟨rfl, ?_, ?_, ?_⟩
  · (repeat refine Own.setOther ?_ (by assumption) _); exact HO.out
  · exact ((HT.out.set 6 (.int .i64 (q : Int))).set 3 (.int .i64 2))
  · exact (((Two.refl g tb w).setCell (p := ⟨tb, 6, none⟩) (.inr rfl) _).drewN nq).setCell (p := ⟨tb, 3, none⟩) (.inr rfl) _

set_option maxRecDepth 100000 in
set_option maxHeartbeats 2000000 in
theorem jfind_11y (g la ca tb : Nat) (up : List Nat) (k x : Nat) (y : Int) (u : Nat) (v : Int) (ww r res : Nat) (w : World) (ho : Own w g up) (hl : up.length = la) (BT : Box w tb 81 [.int .i64 (k : Int), .int .i64 (x : Int), .int .i64 (y : Int), .int .i64 2, .int .i64 (u : Int), .int .i64 (v : Int), .int .i64 (ww : Int), .int .i64 (r : Int), .bool false, .int .i64 (res : Int)]) (hne : g ≠ tb) (hu : u < la) (hw : ww < la) (hr : r < la) (hm : la ≤ 1000000) (e : el up ww = ww) :
    Calls Tryd.prog 103 #[.slice (some ⟨g, 0, none⟩) la ca, .pointer (some ⟨tb, 0, none⟩), .pointer (some ⟨tb, 4, none⟩), .int .i64 1] w fun e w' =>
      e = .returned (.bool true) ∧ Own w' g (up) ∧ Box w' tb 81 [.int .i64 (k : Int), .int .i64 (x : Int), .int .i64 (y : Int), .int .i64 2, .int .i64 (ww : Int), .int .i64 (v : Int), .int .i64 (ww : Int), .int .i64 (ww : Int), .bool false, .int .i64 (res : Int)] ∧ Two g tb w w' := by
  have HL := Lib.hid hl
  have HO := Lib.hid ho
  have HT := Lib.hid BT
  have htb := BT.lt
  have hg := ho.1
  have hne2 : tb ≠ g := Ne.symm hne
  have hu0 : (0 : Int) ≤ u := by omega
  have hu1 : (u : Int) < la := by omega
  have hw0 : (0 : Int) ≤ ww := by omega
  have hw1 : (ww : Int) < la := by omega
  obtain ⟨_, _, _, _, _, _, _, _, _, _⟩ := BT.ten
  obtain ⟨_, _, _, _, _, _, _, _, _, _⟩ := BT.tenf
  clear ho hl BT
  have HE := Lib.hid e
  have hs : ((ww : Int) == (ww : Int)) = true := by simp
  clear e
  go_enter Tryd.func103, Tryd.ntmps103
  go_wp2_with (go_at_call 120; (with_reducible refine (look_in _ _ _ up ww _ (HO.out.row (lo := 0) (hi := w.heap.size) HL.out (Nat.zero_le _) hg) hw hm).mono ?_); rw [HE.out]; rintro e w' ⟨rfl, rfl⟩)
  go_quiet (fail)
  go_wp2_with fail
  go_ret
  refine ⟨rfl, ?_, ?_, ?_⟩
  · (repeat refine Own.setOther ?_ (by assumption) _); exact HO.out
  · exact ((HT.out.set 7 (.int .i64 (ww : Int))).set 4 (.int .i64 (ww : Int)))
  · exact (((Two.refl g tb w).setCell (p := ⟨tb, 7, none⟩) (.inr rfl) _).drewN nq).setCell (p := ⟨tb, 4, none⟩) (.inr rfl) _

set_option maxRecDepth 100000 in
set_option maxHeartbeats 2000000 in
theorem jfind_11n (g la ca tb : Nat) (up : List Nat) (k x : Nat) (y : Int) (u : Nat) (v : Int) (ww r res : Nat) (w : World) (ho : Own w g up) (hl : up.length = la) (BT : Box w tb 81 [.int .i64 (k : Int), .int .i64 (x : Int), .int .i64 (y : Int), .int .i64 2, .int .i64 (u : Int), .int .i64 (v : Int), .int .i64 (ww : Int), .int .i64 (r : Int), .bool false, .int .i64 (res : Int)]) (hne : g ≠ tb) (hu : u < la) (hw : ww < la) (hr : r < la) (hm : la ≤ 1000000) (e : el up ww ≠ ww) :
    Calls Tryd.prog 103 #[.slice (some ⟨g, 0, none⟩) la ca, .pointer (some ⟨tb, 0, none⟩), .pointer (some ⟨tb, 4, none⟩), .int .i64 1] w fun e w' =>
      e = .returned (.bool false) ∧ Own w' g (up) ∧ Box w' tb 81 [.int .i64 (k : Int), .int .i64 (x : Int), .int .i64 (y : Int), .int .i64 3, .int .i64 (u : Int), .int .i64 (v : Int), .int .i64 (ww : Int), .int .i64 (el up ww : Int), .bool false, .int .i64 (res : Int)] ∧ Two g tb w w' := by
  have HL := Lib.hid hl
  have HO := Lib.hid ho
  have HT := Lib.hid BT
  have htb := BT.lt
  have hg := ho.1
  have hne2 : tb ≠ g := Ne.symm hne
  have hu0 : (0 : Int) ≤ u := by omega
  have hu1 : (u : Int) < la := by omega
  have hw0 : (0 : Int) ≤ ww := by omega
  have hw1 : (ww : Int) < la := by omega
  obtain ⟨_, _, _, _, _, _, _, _, _, _⟩ := BT.ten
  obtain ⟨_, _, _, _, _, _, _, _, _, _⟩ := BT.tenf
  clear ho hl BT
  obtain ⟨q, hq⟩ : ∃ q, el up ww = q := ⟨_, rfl⟩
  rw [hq] at e ⊢
  have HE := Lib.hid hq
  have hs : ((q : Int) == (ww : Int)) = false := by simp; omega
  clear e hq
  go_enter Tryd.func103, Tryd.ntmps103
  go_wp2_with (go_at_call 120; (with_reducible refine (look_in _ _ _ up ww _ (HO.out.row (lo := 0) (hi := w.heap.size) HL.out (Nat.zero_le _) hg) hw hm).mono ?_); rw [HE.out]; rintro e w' ⟨rfl, rfl⟩)
  go_quiet (fail)
  go_wp2_with fail
  go_ret
  refine ⟨rfl, ?_, ?_, ?_⟩
  · (repeat refine Own.setOther ?_ (by assumption) _); exact HO.out
  · exact ((HT.out.set 7 (.int .i64 (q : Int))).set 3 (.int .i64 3))
  · exact (((Two.refl g tb w).setCell (p := ⟨tb, 7, none⟩) (.inr rfl) _).drewN nq).setCell (p := ⟨tb, 3, none⟩) (.inr rfl) _

set_option maxRecDepth 100000 in
set_option maxHeartbeats 2000000 in
theorem jfind_12y (g la ca tb : Nat) (up : List Nat) (k x : Nat) (y : Int) (u : Nat) (v : Int) (ww r res : Nat) (w : World) (ho : Own w g up) (hl : up.length = la) (BT : Box w tb 81 [.int .i64 (k : Int), .int .i64 (x : Int), .int .i64 (y : Int), .int .i64 3, .int .i64 (u : Int), .int .i64 (v : Int), .int .i64 (ww : Int), .int .i64 (r : Int), .bool false, .int .i64 (res : Int)]) (hne : g ≠ tb) (hu : u < la) (hw : ww < la) (hr : r < la) (hm : la ≤ 1000000) (e : el up u = ww) :
    Calls Tryd.prog 103 #[.slice (some ⟨g, 0, none⟩) la ca, .pointer (some ⟨tb, 0, none⟩), .pointer (some ⟨tb, 4, none⟩), .int .i64 1] w fun e w' =>
      e = .returned (.bool false) ∧ Own w' g (up.set u r) ∧ Box w' tb 81 [.int .i64 (k : Int), .int .i64 (x : Int), .int .i64 (y : Int), .int .i64 1, .int .i64 (ww : Int), .int .i64 (v : Int), .int .i64 (ww : Int), .int .i64 (r : Int), .bool false, .int .i64 (res : Int)] ∧ Two g tb w w' := by
  have HL := Lib.hid hl
  have HO := Lib.hid ho
  have HT := Lib.hid BT
  have htb := BT.lt
  have hg := ho.1
  have hne2 : tb ≠ g := Ne.symm hne
  have hu0 : (0 : Int) ≤ u := by omega
  have hu1 : (u : Int) < la := by omega
  have hw0 : (0 : Int) ≤ ww := by omega
  have hw1 : (ww : Int) < la := by omega
  obtain ⟨_, _, _, _, _, _, _, _, _, _⟩ := BT.ten
  obtain ⟨_, _, _, _, _, _, _, _, _, _⟩ := BT.tenf
  clear ho hl BT
  have hmm := @run_makeMap Tryd.prog
  have HE := Lib.hid e
  clear e
  obtain ⟨kl, hkey⟩ := ch_key (a := (u : Int)) (b := (ww : Int)) (c := (r : Int)) (by unfold fits; omega) (by unfold fits; omega) (by unfold fits; omega)
  have E1 : (Instr.mapUpdate 195 (.map (some w.heap.size)) (.agg #[.int .i64 (u : Int), .int .i64 (ww : Int), .int .i64 (r : Int)]) (.int .i64 0)).run Tryd.prog (w.alloc (.map #[] 0)).drew = .ok () (w.alloc (oneMap (.agg #[.int .i64 (u : Int), .int .i64 (ww : Int), .int .i64 (r : Int)]) 0)).drew := by
    rw [run_fill (r := w.heap.size) (by exact heap_alloc_new _ _) hkey]; congr 1
    exact congrArg World.drew (setBlock_last w _ _)
  have HS0 : Hid (w.drew.cell? ⟨tb, 4, none⟩ = some (.int .i64 (u : Int)) ∧ w.drew.cell? ⟨tb, 6, none⟩ = some (.int .i64 (ww : Int)) ∧ w.drew.cell? ⟨tb, 7, none⟩ = some (.int .i64 (r : Int))) := ⟨HT.out.cell 4, HT.out.cell 6, HT.out.cell 7⟩
  have HA1 := HT.out.alloc (.map #[] 0)
  have HS1 : Hid ((w.alloc (.map #[] 0)).drew.cell? ⟨tb, 4, none⟩ = some (.int .i64 (u : Int)) ∧ (w.alloc (.map #[] 0)).drew.cell? ⟨tb, 6, none⟩ = some (.int .i64 (ww : Int)) ∧ (w.alloc (.map #[] 0)).drew.cell? ⟨tb, 7, none⟩ = some (.int .i64 (r : Int))) := ⟨HA1.cell 4, HA1.cell 6, HA1.cell 7⟩
  have HA2 := HT.out.alloc (oneMap (.agg #[.int .i64 (u : Int), .int .i64 (ww : Int), .int .i64 (r : Int)]) 0)
  have HS2 : Hid ((w.alloc (oneMap (.agg #[.int .i64 (u : Int), .int .i64 (ww : Int), .int .i64 (r : Int)]) 0)).drew.cell? ⟨tb, 4, none⟩ = some (.int .i64 (u : Int)) ∧ (w.alloc (oneMap (.agg #[.int .i64 (u : Int), .int .i64 (ww : Int), .int .i64 (r : Int)]) 0)).drew.cell? ⟨tb, 6, none⟩ = some (.int .i64 (ww : Int)) ∧ (w.alloc (oneMap (.agg #[.int .i64 (u : Int), .int .i64 (ww : Int), .int .i64 (r : Int)]) 0)).drew.cell? ⟨tb, 7, none⟩ = some (.int .i64 (r : Int))) := ⟨HA2.cell 4, HA2.cell 6, HA2.cell 7⟩
  have HC : Hid (Calls Tryd.prog 121 #[.map (some w.heap.size), .slice (some ⟨g, 0, none⟩) la ca] (w.alloc (oneMap (.agg #[.int .i64 (u : Int), .int .i64 (ww : Int), .int .i64 (r : Int)]) 0)).drew fun e w1 => e = .returned (.tuple #[]) ∧ Own w1 g (up.set u r) ∧ Box w1 tb 81 [.int .i64 (k : Int), .int .i64 (x : Int), .int .i64 (y : Int), .int .i64 3, .int .i64 (u : Int), .int .i64 (v : Int), .int .i64 (ww : Int), .int .i64 (r : Int), .bool false, .int .i64 (res : Int)] ∧ Two g tb w w1 ∧ (w1.cell? ⟨tb, 4, none⟩ = some (.int .i64 (u : Int)) ∧ w1.cell? ⟨tb, 6, none⟩ = some (.int .i64 (ww : Int)) ∧ w1.cell? ⟨tb, 7, none⟩ = some (.int .i64 (r : Int)))) :=
    (into_yes w.heap.size g la ca up u ww r (w.alloc (oneMap (.agg #[.int .i64 (u : Int), .int .i64 (ww : Int), .int .i64 (r : Int)]) 0)).drew (heap_alloc_new _ _) (HO.out.alloc _) HL.out hu hw hr HE.out hm (by omega)).mono fun e w1 ⟨h1, ho1, _, ht1⟩ => by
      have hb := ht1.box HA2.drew hne2 (by omega)
      exact ⟨h1, ho1, hb, ht1.fresh (b := tb), hb.cell 4, hb.cell 6, hb.cell 7⟩
  clear hkey HA1 HA2
  go_enter Tryd.func103, Tryd.ntmps103
  go_upto_region 2 with fail
  go_cut [8] from 9 to 98 (fun s8 wx => jAfterInto g tb (up.set u r) w k x y 3 u v ww r res s8 wx)
  case first =>
    go_region_held3 (fun w' => w'.cell? ⟨tb, 4, none⟩ = some (.int .i64 (u : Int)) ∧ w'.cell? ⟨tb, 6, none⟩ = some (.int .i64 (ww : Int)) ∧ w'.cell? ⟨tb, 7, none⟩ = some (.int .i64 (r : Int)))
      (first
        | exact HS0.out
        | exact HS1.out
        | exact HS2.out
        | exact hS3)
      (first
        | (go_at_call 121; (refine (HC.out).mono ?_); rintro e w1 ⟨rfl, ho1, BT1, ht2, hS3⟩)
        | fail)
    all_goals (go_wp2_with fail; go_meet)
    all_goals exact ⟨rfl, ho1, BT1, ht2⟩
  case rest =>
    obtain ⟨rfl, ho1, BT1, ht2⟩ := hcut
    have HO1 := Lib.hid ho1
    have HT1 := Lib.hid BT1
    have hs1 := ht2.size
    have hg1 := ho1.1
    have htb1 := BT1.lt
    obtain ⟨_, _, _, _, _, _, _, _, _, _⟩ := BT1.ten
    obtain ⟨_, _, _, _, _, _, _, _, _, _⟩ := BT1.tenf
    have HT2 := Lib.hid ht2
    clear ht2 BT1 ho1
    go_wp2_with fail
    go_ret
    refine ⟨rfl, ?_, ?_, ?_⟩
    · (repeat refine Own.setOther ?_ (by assumption) _); exact HO1.out
    · exact (HT1.out.set 4 (.int .i64 (ww : Int))).set 3 (.int .i64 1)
    · exact (HT2.out.setCell (p := ⟨tb, 4, none⟩) (.inr rfl) _).setCell (p := ⟨tb, 3, none⟩) (.inr rfl) _

set_option maxRecDepth 100000 in
set_option maxHeartbeats 2000000 in
theorem jfind_12n (g la ca tb : Nat) (up : List Nat) (k x : Nat) (y : Int) (u : Nat) (v : Int) (ww r res : Nat) (w : World) (ho : Own w g up) (hl : up.length = la) (BT : Box w tb 81 [.int .i64 (k : Int), .int .i64 (x : Int), .int .i64 (y : Int), .int .i64 3, .int .i64 (u : Int), .int .i64 (v : Int), .int .i64 (ww : Int), .int .i64 (r : Int), .bool false, .int .i64 (res : Int)]) (hne : g ≠ tb) (hu : u < la) (hw : ww < la) (hr : r < la) (hm : la ≤ 1000000) (e : el up u ≠ ww) :
    Calls Tryd.prog 103 #[.slice (some ⟨g, 0, none⟩) la ca, .pointer (some ⟨tb, 0, none⟩), .pointer (some ⟨tb, 4, none⟩), .int .i64 1] w fun e w' =>
      e = .returned (.bool false) ∧ Own w' g (up) ∧ Box w' tb 81 [.int .i64 (k : Int), .int .i64 (x : Int), .int .i64 (y : Int), .int .i64 1, .int .i64 (ww : Int), .int .i64 (v : Int), .int .i64 (ww : Int), .int .i64 (r : Int), .bool false, .int .i64 (res : Int)] ∧ Two g tb w w' := by
  have HL := Lib.hid hl
  have HO := Lib.hid ho
  have HT := Lib.hid BT
  have htb := BT.lt
  have hg := ho.1
  have hne2 : tb ≠ g := Ne.symm hne
  have hu0 : (0 : Int) ≤ u := by omega
  have hu1 : (u : Int) < la := by omega
  have hw0 : (0 : Int) ≤ ww := by omega
  have hw1 : (ww : Int) < la := by omega
  obtain ⟨_, _, _, _, _, _, _, _, _, _⟩ := BT.ten
  obtain ⟨_, _, _, _, _, _, _, _, _, _⟩ := BT.tenf
  clear ho hl BT
  have hmm := @run_makeMap Tryd.prog
  have HE := Lib.hid e
  clear e
  obtain ⟨kl, hkey⟩ := ch_key (a := (u : Int)) (b := (ww : Int)) (c := (r : Int)) (by unfold fits; omega) (by unfold fits; omega) (by unfold fits; omega)
  have E1 : (Instr.mapUpdate 195 (.map (some w.heap.size)) (.agg #[.int .i64 (u : Int), .int .i64 (ww : Int), .int .i64 (r : Int)]) (.int .i64 0)).run Tryd.prog (w.alloc (.map #[] 0)).drew = .ok () (w.alloc (oneMap (.agg #[.int .i64 (u : Int), .int .i64 (ww : Int), .int .i64 (r : Int)]) 0)).drew := by
    rw [run_fill (r := w.heap.size) (by exact heap_alloc_new _ _) hkey]; congr 1
    exact congrArg World.drew (setBlock_last w _ _)
  have HS0 : Hid (w.drew.cell? ⟨tb, 4, none⟩ = some (.int .i64 (u : Int)) ∧ w.drew.cell? ⟨tb, 6, none⟩ = some (.int .i64 (ww : Int)) ∧ w.drew.cell? ⟨tb, 7, none⟩ = some (.int .i64 (r : Int))) := ⟨HT.out.cell 4, HT.out.cell 6, HT.out.cell 7⟩
  have HA1 := HT.out.alloc (.map #[] 0)
  have HS1 : Hid ((w.alloc (.map #[] 0)).drew.cell? ⟨tb, 4, none⟩ = some (.int .i64 (u : Int)) ∧ (w.alloc (.map #[] 0)).drew.cell? ⟨tb, 6, none⟩ = some (.int .i64 (ww : Int)) ∧ (w.alloc (.map #[] 0)).drew.cell? ⟨tb, 7, none⟩ = some (.int .i64 (r : Int))) := ⟨HA1.cell 4, HA1.cell 6, HA1.cell 7⟩
  have HA2 := HT.out.alloc (oneMap (.agg #[.int .i64 (u : Int), .int .i64 (ww : Int), .int .i64 (r : Int)]) 0)
  have HS2 : Hid ((w.alloc (oneMap (.agg #[.int .i64 (u : Int), .int .i64 (ww : Int), .int .i64 (r : Int)]) 0)).drew.cell? ⟨tb, 4, none⟩ = some (.int .i64 (u : Int)) ∧ (w.alloc (oneMap (.agg #[.int .i64 (u : Int), .int .i64 (ww : Int), .int .i64 (r : Int)]) 0)).drew.cell? ⟨tb, 6, none⟩ = some (.int .i64 (ww : Int)) ∧ (w.alloc (oneMap (.agg #[.int .i64 (u : Int), .int .i64 (ww : Int), .int .i64 (r : Int)]) 0)).drew.cell? ⟨tb, 7, none⟩ = some (.int .i64 (r : Int))) := ⟨HA2.cell 4, HA2.cell 6, HA2.cell 7⟩
  have HC : Hid (Calls Tryd.prog 121 #[.map (some w.heap.size), .slice (some ⟨g, 0, none⟩) la ca] (w.alloc (oneMap (.agg #[.int .i64 (u : Int), .int .i64 (ww : Int), .int .i64 (r : Int)]) 0)).drew fun e w1 => e = .returned (.tuple #[]) ∧ Own w1 g (up) ∧ Box w1 tb 81 [.int .i64 (k : Int), .int .i64 (x : Int), .int .i64 (y : Int), .int .i64 3, .int .i64 (u : Int), .int .i64 (v : Int), .int .i64 (ww : Int), .int .i64 (r : Int), .bool false, .int .i64 (res : Int)] ∧ Two g tb w w1 ∧ (w1.cell? ⟨tb, 4, none⟩ = some (.int .i64 (u : Int)) ∧ w1.cell? ⟨tb, 6, none⟩ = some (.int .i64 (ww : Int)) ∧ w1.cell? ⟨tb, 7, none⟩ = some (.int .i64 (r : Int)))) :=
    (into_no w.heap.size g la ca up u ww r (w.alloc (oneMap (.agg #[.int .i64 (u : Int), .int .i64 (ww : Int), .int .i64 (r : Int)]) 0)).drew (heap_alloc_new _ _) (HO.out.alloc _) HL.out hu hw hr HE.out hm (by omega)).mono fun e w1 ⟨h1, ho1, _, ht1⟩ => by
      have hb := ht1.box HA2.drew hne2 (by omega)
      exact ⟨h1, ho1, hb, ht1.fresh (b := tb), hb.cell 4, hb.cell 6, hb.cell 7⟩
  clear hkey HA1 HA2
  go_enter Tryd.func103, Tryd.ntmps103
  go_upto_region 2 with fail
  go_cut [8] from 9 to 98 (fun s8 wx => jAfterInto g tb (up) w k x y 3 u v ww r res s8 wx)
  case first =>
    go_region_held3 (fun w' => w'.cell? ⟨tb, 4, none⟩ = some (.int .i64 (u : Int)) ∧ w'.cell? ⟨tb, 6, none⟩ = some (.int .i64 (ww : Int)) ∧ w'.cell? ⟨tb, 7, none⟩ = some (.int .i64 (r : Int)))
      (first
        | exact HS0.out
        | exact HS1.out
        | exact HS2.out
        | exact hS3)
      (first
        | (go_at_call 121; (refine (HC.out).mono ?_); rintro e w1 ⟨rfl, ho1, BT1, ht2, hS3⟩)
        | fail)
    all_goals (go_wp2_with fail; go_meet)
    all_goals exact ⟨rfl, ho1, BT1, ht2⟩
  case rest =>
    obtain ⟨rfl, ho1, BT1, ht2⟩ := hcut
    have HO1 := Lib.hid ho1
    have HT1 := Lib.hid BT1
    have hs1 := ht2.size
    have hg1 := ho1.1
    have htb1 := BT1.lt
    obtain ⟨_, _, _, _, _, _, _, _, _, _⟩ := BT1.ten
    obtain ⟨_, _, _, _, _, _, _, _, _, _⟩ := BT1.tenf
    have HT2 := Lib.hid ht2
    clear ht2 BT1 ho1
    go_wp2_with fail
    go_ret
    refine ⟨rfl, ?_, ?_, ?_⟩
    · (repeat refine Own.setOther ?_ (by assumption) _); exact HO1.out
    · exact (HT1.out.set 4 (.int .i64 (ww : Int))).set 3 (.int .i64 1)
    · exact (HT2.out.setCell (p := ⟨tb, 4, none⟩) (.inr rfl) _).setCell (p := ⟨tb, 3, none⟩) (.inr rfl) _

end Go.Proofs.YtpfcpeljfgmjgaaDoor

namespace Go.Proofs.YtpfcpeljfgmjgaaDoor
open Go.RowKit
open Go.ChangeMaps (setBlock)
set_option linter.unusedVariables false
set_option linter.unusedSimpArgs false

set_option maxRecDepth 100000 in
set_option maxHeartbeats 2000000 in
theorem jstep_dn (a b : Option Addr) (la ca cb : Nat) (pr : List Int) (up : List Nat) (k x : Nat) (y : Int) (u : Nat) (v : Int) (ww r res : Nat) (w : World) {lo hi lo2 hi2 : Nat}
    (hp : RowN lo hi w a la up) (hhi : hi ≤ w.heap.size) (hq : Row lo2 hi2 w b la pr) (hhi2 : hi2 ≤ w.heap.size) (hu : u < la) (hw : ww < la) (hr : r < la) (hm : la ≤ 1000000) (st : Nat) :
    Calls Tryd.prog 73 #[.slice a la ca, .slice b la cb, .agg #[.int .i64 (k : Int), .int .i64 (x : Int), .int .i64 (y : Int), .int .i64 (st : Int), .int .i64 (u : Int), .int .i64 (v : Int), .int .i64 (ww : Int), .int .i64 (r : Int), .bool true, .int .i64 (res : Int)]] w fun e w' =>
      ∃ g c, e = .returned (.tuple #[.slice (some ⟨g, 0, none⟩) la c, .agg #[.int .i64 (k : Int), .int .i64 (x : Int), .int .i64 (y : Int), .int .i64 (st : Int), .int .i64 (u : Int), .int .i64 (v : Int), .int .i64 (ww : Int), .int .i64 (r : Int), .bool true, .int .i64 (res : Int)]]) ∧ w.heap.size ≤ g ∧ Own w' g (up) ∧ Below w.heap.size w w' := by
  have HL := Lib.hid hp.1
  have HP := Lib.hid hp
  have HQ := Lib.hid hq
  clear hp hq
  go_enter Tryd.func73, Tryd.ntmps73
  go_wp2_with fail
  refine (clone_own _ _ _ up _ ((HP.out.alloc hhi _).alloc (by simp; omega) _) (by simp; omega) (by omega) hm).mono ?_
  rintro e w1 ⟨g, c7, rfl, hg, ho, hb1⟩
  have BT := ((Box.new w 81 [.int .i64 (k : Int), .int .i64 (x : Int), .int .i64 (y : Int), .int .i64 (st : Int), .int .i64 (u : Int), .int .i64 (v : Int), .int .i64 (ww : Int), .int .i64 (r : Int), .bool true, .int .i64 (res : Int)]).alloc (.cells #[.int .i64 0, .int .i64 0, .int .i64 0, .int .i64 0, .int .i64 0, .int .i64 0, .int .i64 0, .int .i64 0, .bool false, .int .i64 0] 81)).below hb1
  have BR := (Box.new (w.alloc (.cells #[.int .i64 (k : Int), .int .i64 (x : Int), .int .i64 (y : Int), .int .i64 (st : Int), .int .i64 (u : Int), .int .i64 (v : Int), .int .i64 (ww : Int), .int .i64 (r : Int), .bool true, .int .i64 (res : Int)] 81)) 81 [.int .i64 0, .int .i64 0, .int .i64 0, .int .i64 0, .int .i64 0, .int .i64 0, .int .i64 0, .int .i64 0, .bool false, .int .i64 0]).below hb1
  rw [World.size_alloc] at BR
  rw [World.size_alloc, World.size_alloc] at hg
  have hs1 := BR.lt
  have hg1 := ho.1
  have HB1 : Hid (Below w.heap.size w w1) := (below_two _ _ _).trans (hb1.mono (by simp; omega))
  have HO := Lib.hid ho
  have hgw : w.heap.size ≤ g := by omega
  have n1 : w.heap.size ≠ g := by omega
  have n2 : w.heap.size + 1 ≠ g := by omega
  have n3 : g ≠ w.heap.size := by omega
  have n4 : g ≠ w.heap.size + 1 := by omega
  have n5 : w.heap.size + 1 ≠ w.heap.size := by omega
  have n6 : w.heap.size ≠ w.heap.size + 1 := by omega
  have HT := Lib.hid BT
  have HR := Lib.hid BR
  obtain ⟨_, _, _, _, _, _, _, _, _, _⟩ := BT.ten
  obtain ⟨_, _, _, _, _, _, _, _, _, _⟩ := BT.tenf
  clear BT BR hb1 ho hg
  obtain ⟨_, _, _, _, _, _, _, _, _, _⟩ := HR.out.ten
  obtain ⟨_, _, _, _, _, _, _, _, _, _⟩ := HR.out.tenf
  go_wp2_with fail
  go_region
  go_wp2_with fail
  refine bodyPost_ret (v := .tuple #[.slice (some ⟨g, 0, none⟩) la c7, .agg #[.int .i64 (k : Int), .int .i64 (x : Int), .int .i64 (y : Int), .int .i64 (st : Int), .int .i64 (u : Int), .int .i64 (v : Int), .int .i64 (ww : Int), .int .i64 (r : Int), .bool true, .int .i64 (res : Int)]]) (by simp only [results, Tryd.results73]; go_simp) rfl ⟨_, _, rfl, hgw, ?_, ?_⟩
  · refine Own.drew1 ?_; (repeat refine Own.setOther ?_ (by assumption) _); exact HO.out
  · refine Below.drew ?_; (repeat refine Below.setCell ?_ (by first | assumption | exact Nat.le_refl _ | exact Nat.le_succ _) _); exact HB1.out

set_option maxRecDepth 100000 in
set_option maxHeartbeats 2000000 in
theorem jstep_1r (a b : Option Addr) (la ca cb : Nat) (pr : List Int) (up : List Nat) (k x : Nat) (y : Int) (u : Nat) (v : Int) (ww r res : Nat) (w : World) (st' : Int) (dn' : Bool) (res' : Int) {lo hi lo2 hi2 : Nat}
    (hp : RowN lo hi w a la up) (hhi : hi ≤ w.heap.size) (hq : Row lo2 hi2 w b la pr) (hhi2 : hi2 ≤ w.heap.size) (hu : u < la) (hw : ww < la) (hr : r < la) (hm : la ≤ 1000000) (e : el up u = u) (h : Fst k u 1 false res st' dn' res') :
    Calls Tryd.prog 73 #[.slice a la ca, .slice b la cb, .agg #[.int .i64 (k : Int), .int .i64 (x : Int), .int .i64 (y : Int), .int .i64 1, .int .i64 (u : Int), .int .i64 (v : Int), .int .i64 (ww : Int), .int .i64 (r : Int), .bool false, .int .i64 (res : Int)]] w fun e w' =>
      ∃ g c, e = .returned (.tuple #[.slice (some ⟨g, 0, none⟩) la c, .agg #[.int .i64 (k : Int), .int .i64 (x : Int), .int .i64 (y : Int), .int .i64 st', .int .i64 (u : Int), .int .i64 (v : Int), .int .i64 (u : Int), .int .i64 (r : Int), .bool dn', .int .i64 res']]) ∧ w.heap.size ≤ g ∧ Own w' g (up) ∧ Below w.heap.size w w' := by
  have HL := Lib.hid hp.1
  have HP := Lib.hid hp
  have HQ := Lib.hid hq
  clear hp hq
  have HE := Lib.hid e
  have HF := Lib.hid h
  clear e h
  go_enter Tryd.func73, Tryd.ntmps73
  go_wp2_with fail
  refine (clone_own _ _ _ up _ ((HP.out.alloc hhi _).alloc (by simp; omega) _) (by simp; omega) (by omega) hm).mono ?_
  rintro e w1 ⟨g, c7, rfl, hg, ho, hb1⟩
  have BT := ((Box.new w 81 [.int .i64 (k : Int), .int .i64 (x : Int), .int .i64 (y : Int), .int .i64 1, .int .i64 (u : Int), .int .i64 (v : Int), .int .i64 (ww : Int), .int .i64 (r : Int), .bool false, .int .i64 (res : Int)]).alloc (.cells #[.int .i64 0, .int .i64 0, .int .i64 0, .int .i64 0, .int .i64 0, .int .i64 0, .int .i64 0, .int .i64 0, .bool false, .int .i64 0] 81)).below hb1
  have BR := (Box.new (w.alloc (.cells #[.int .i64 (k : Int), .int .i64 (x : Int), .int .i64 (y : Int), .int .i64 1, .int .i64 (u : Int), .int .i64 (v : Int), .int .i64 (ww : Int), .int .i64 (r : Int), .bool false, .int .i64 (res : Int)] 81)) 81 [.int .i64 0, .int .i64 0, .int .i64 0, .int .i64 0, .int .i64 0, .int .i64 0, .int .i64 0, .int .i64 0, .bool false, .int .i64 0]).below hb1
  rw [World.size_alloc] at BR
  rw [World.size_alloc, World.size_alloc] at hg
  have hs1 := BR.lt
  have hg1 := ho.1
  have HB1 : Hid (Below w.heap.size w w1) := (below_two _ _ _).trans (hb1.mono (by simp; omega))
  have HO := Lib.hid ho
  have hgw : w.heap.size ≤ g := by omega
  have n1 : w.heap.size ≠ g := by omega
  have n2 : w.heap.size + 1 ≠ g := by omega
  have n3 : g ≠ w.heap.size := by omega
  have n4 : g ≠ w.heap.size + 1 := by omega
  have n5 : w.heap.size + 1 ≠ w.heap.size := by omega
  have n6 : w.heap.size ≠ w.heap.size + 1 := by omega
  have HT := Lib.hid BT
  have HR := Lib.hid BR
  obtain ⟨_, _, _, _, _, _, _, _, _, _⟩ := BT.ten
  obtain ⟨_, _, _, _, _, _, _, _, _, _⟩ := BT.tenf
  clear BT BR hb1 ho hg
  go_wp2_with fail
  refine (jfind_10y g la c7 w.heap.size up k x y u v ww r res _ HO.out HL.out HT.out n3 hu hw hr hm HE.out).mono ?_
  rintro e w2 ⟨rfl, ho2, BT2, ht2⟩
  have hs2 := ht2.size
  have HO2 := Lib.hid ho2
  have HT2 := Lib.hid BT2
  have HR2 := Lib.hid (ht2.box HR.out n2 n5)
  have HB2 : Hid (Below w.heap.size w w2) := HB1.out.trans (ht2.below (by omega) hgw (Nat.le_refl _))
  have hg2 := ho2.1
  have hs3 : w.heap.size + 1 < w2.heap.size := by omega
  obtain ⟨_, _, _, _, _, _, _, _, _, _⟩ := BT2.ten
  obtain ⟨_, _, _, _, _, _, _, _, _, _⟩ := BT2.tenf
  clear ho2 BT2 ht2
  have H1 : Hid (∀ q0 ∈ ([.int .i64 (k : Int), .int .i64 (x : Int), .int .i64 (y : Int), .int .i64 st', .int .i64 (u : Int), .int .i64 (v : Int), .int .i64 (u : Int), .int .i64 (r : Int), .bool dn', .int .i64 res'] : List Value), q0.oneCell' = true) := by intro q0 hv; simp at hv; rcases hv with rfl | rfl | rfl | rfl | rfl | rfl | rfl | rfl | rfl | rfl <;> rfl
  go_wp2_with fail
  refine (first_v _ _ _ _ _ _ _ _ _ _ st' dn' res' _ HF.out).mono ?_
  rintro e w3 ⟨rfl, hb3⟩
  have hs4 := hb3.size
  have HT3 := Lib.hid (HT2.out.below hb3)
  have HR3 := Lib.hid (HR2.out.below hb3)
  have HO3 := Lib.hid (HO2.out.below hb3 hg2)
  have HB3 : Hid (Below w.heap.size w w3) := HB2.out.trans (hb3.mono (by omega))
  have hs5 : w.heap.size < w3.heap.size := by omega
  clear hb3
  go_wp2_with (refine wpList_store_box rfl 81 _ _ rfl w.heap.size [.int .i64 (k : Int), .int .i64 (x : Int), .int .i64 (y : Int), .int .i64 st', .int .i64 (u : Int), .int .i64 (v : Int), .int .i64 (u : Int), .int .i64 (r : Int), .bool dn', .int .i64 res'] rfl rfl 81 _ HT3.out Tryd.taskSize rfl H1.out ?_; intro w4 BT4 ht4)
  have HO4 := Lib.hid (ht4.own HO3.out n3 n3)
  have BR4 := ht4.box HR3.out n5 n5
  have HB4 : Hid (Below w.heap.size w w4) := Below.trans HB3.out (ht4.below (by omega) (Nat.le_refl _) (Nat.le_refl _))
  have hs6 := BR4.lt
  obtain ⟨_, _, _, _, _, _, _, _, _, _⟩ := BT4.ten
  obtain ⟨_, _, _, _, _, _, _, _, _, _⟩ := BT4.tenf
  obtain ⟨_, _, _, _, _, _, _, _, _, _⟩ := BR4.ten
  obtain ⟨_, _, _, _, _, _, _, _, _, _⟩ := BR4.tenf
  clear BT4 BR4 ht4
  go_region
  go_wp2_with fail
  refine bodyPost_ret (v := .tuple #[.slice (some ⟨g, 0, none⟩) la c7, .agg #[.int .i64 (k : Int), .int .i64 (x : Int), .int .i64 (y : Int), .int .i64 st', .int .i64 (u : Int), .int .i64 (v : Int), .int .i64 (u : Int), .int .i64 (r : Int), .bool dn', .int .i64 res']]) (by simp only [results, Tryd.results73]; go_simp) rfl ⟨_, _, rfl, hgw, ?_, ?_⟩
  · refine Own.drew1 ?_; (repeat refine Own.setOther ?_ (by assumption) _); exact HO4.out
  · refine Below.drew ?_; (repeat refine Below.setCell ?_ (by first | assumption | exact Nat.le_refl _ | exact Nat.le_succ _) _); exact HB4.out

set_option maxRecDepth 100000 in
set_option maxHeartbeats 2000000 in
theorem jstep_1n (a b : Option Addr) (la ca cb : Nat) (pr : List Int) (up : List Nat) (k x : Nat) (y : Int) (u : Nat) (v : Int) (ww r res : Nat) (w : World) {lo hi lo2 hi2 : Nat}
    (hp : RowN lo hi w a la up) (hhi : hi ≤ w.heap.size) (hq : Row lo2 hi2 w b la pr) (hhi2 : hi2 ≤ w.heap.size) (hu : u < la) (hw : ww < la) (hr : r < la) (hm : la ≤ 1000000) (e : el up u ≠ u) :
    Calls Tryd.prog 73 #[.slice a la ca, .slice b la cb, .agg #[.int .i64 (k : Int), .int .i64 (x : Int), .int .i64 (y : Int), .int .i64 1, .int .i64 (u : Int), .int .i64 (v : Int), .int .i64 (ww : Int), .int .i64 (r : Int), .bool false, .int .i64 (res : Int)]] w fun e w' =>
      ∃ g c, e = .returned (.tuple #[.slice (some ⟨g, 0, none⟩) la c, .agg #[.int .i64 (k : Int), .int .i64 (x : Int), .int .i64 (y : Int), .int .i64 2, .int .i64 (u : Int), .int .i64 (v : Int), .int .i64 (el up u : Int), .int .i64 (r : Int), .bool false, .int .i64 (res : Int)]]) ∧ w.heap.size ≤ g ∧ Own w' g (up) ∧ Below w.heap.size w w' := by
  have HL := Lib.hid hp.1
  have HP := Lib.hid hp
  have HQ := Lib.hid hq
  clear hp hq
  obtain ⟨q, hq⟩ : ∃ q, el up u = q := ⟨_, rfl⟩
  have HE := Lib.hid e
  rw [hq]
  have HQE := Lib.hid hq
  clear e hq
  go_enter Tryd.func73, Tryd.ntmps73
  go_wp2_with fail
  refine (clone_own _ _ _ up _ ((HP.out.alloc hhi _).alloc (by simp; omega) _) (by simp; omega) (by omega) hm).mono ?_
  rintro e w1 ⟨g, c7, rfl, hg, ho, hb1⟩
  have BT := ((Box.new w 81 [.int .i64 (k : Int), .int .i64 (x : Int), .int .i64 (y : Int), .int .i64 1, .int .i64 (u : Int), .int .i64 (v : Int), .int .i64 (ww : Int), .int .i64 (r : Int), .bool false, .int .i64 (res : Int)]).alloc (.cells #[.int .i64 0, .int .i64 0, .int .i64 0, .int .i64 0, .int .i64 0, .int .i64 0, .int .i64 0, .int .i64 0, .bool false, .int .i64 0] 81)).below hb1
  have BR := (Box.new (w.alloc (.cells #[.int .i64 (k : Int), .int .i64 (x : Int), .int .i64 (y : Int), .int .i64 1, .int .i64 (u : Int), .int .i64 (v : Int), .int .i64 (ww : Int), .int .i64 (r : Int), .bool false, .int .i64 (res : Int)] 81)) 81 [.int .i64 0, .int .i64 0, .int .i64 0, .int .i64 0, .int .i64 0, .int .i64 0, .int .i64 0, .int .i64 0, .bool false, .int .i64 0]).below hb1
  rw [World.size_alloc] at BR
  rw [World.size_alloc, World.size_alloc] at hg
  have hs1 := BR.lt
  have hg1 := ho.1
  have HB1 : Hid (Below w.heap.size w w1) := (below_two _ _ _).trans (hb1.mono (by simp; omega))
  have HO := Lib.hid ho
  have hgw : w.heap.size ≤ g := by omega
  have n1 : w.heap.size ≠ g := by omega
  have n2 : w.heap.size + 1 ≠ g := by omega
  have n3 : g ≠ w.heap.size := by omega
  have n4 : g ≠ w.heap.size + 1 := by omega
  have n5 : w.heap.size + 1 ≠ w.heap.size := by omega
  have n6 : w.heap.size ≠ w.heap.size + 1 := by omega
  have HT := Lib.hid BT
  have HR := Lib.hid BR
  obtain ⟨_, _, _, _, _, _, _, _, _, _⟩ := BT.ten
  obtain ⟨_, _, _, _, _, _, _, _, _, _⟩ := BT.tenf
  clear BT BR hb1 ho hg
  go_wp2_with fail
  refine (jfind_10n g la c7 w.heap.size up k x y u v ww r res _ HO.out HL.out HT.out n3 hu hw hr hm HE.out).mono ?_
  rw [HQE.out]
  rintro e w2 ⟨rfl, ho2, BT2, ht2⟩
  have hs2 := ht2.size
  have HO2 := Lib.hid ho2
  have HT2 := Lib.hid BT2
  have HR2 := Lib.hid (ht2.box HR.out n2 n5)
  have HB2 : Hid (Below w.heap.size w w2) := HB1.out.trans (ht2.below (by omega) hgw (Nat.le_refl _))
  have hg2 := ho2.1
  have hs3 : w.heap.size + 1 < w2.heap.size := by omega
  obtain ⟨_, _, _, _, _, _, _, _, _, _⟩ := BT2.ten
  obtain ⟨_, _, _, _, _, _, _, _, _, _⟩ := BT2.tenf
  clear ho2 BT2 ht2
  obtain ⟨_, _, _, _, _, _, _, _, _, _⟩ := HR2.out.ten
  obtain ⟨_, _, _, _, _, _, _, _, _, _⟩ := HR2.out.tenf
  go_wp2_with fail
  go_region
  go_wp2_with fail
  refine bodyPost_ret (v := .tuple #[.slice (some ⟨g, 0, none⟩) la c7, .agg #[.int .i64 (k : Int), .int .i64 (x : Int), .int .i64 (y : Int), .int .i64 2, .int .i64 (u : Int), .int .i64 (v : Int), .int .i64 (q : Int), .int .i64 (r : Int), .bool false, .int .i64 (res : Int)]]) (by simp only [results, Tryd.results73]; go_simp) rfl ⟨_, _, rfl, hgw, ?_, ?_⟩
  · refine Own.drew1 ?_; (repeat refine Own.setOther ?_ (by assumption) _); exact HO2.out
  · refine Below.drew ?_; (repeat refine Below.setCell ?_ (by first | assumption | exact Nat.le_refl _ | exact Nat.le_succ _) _); exact HB2.out

set_option maxRecDepth 100000 in
set_option maxHeartbeats 2000000 in
theorem jstep_2r (a b : Option Addr) (la ca cb : Nat) (pr : List Int) (up : List Nat) (k x : Nat) (y : Int) (u : Nat) (v : Int) (ww r res : Nat) (w : World) (st' : Int) (dn' : Bool) (res' : Int) {lo hi lo2 hi2 : Nat}
    (hp : RowN lo hi w a la up) (hhi : hi ≤ w.heap.size) (hq : Row lo2 hi2 w b la pr) (hhi2 : hi2 ≤ w.heap.size) (hu : u < la) (hw : ww < la) (hr : r < la) (hm : la ≤ 1000000) (e : el up ww = ww) (h : Fst k ww 2 false res st' dn' res') :
    Calls Tryd.prog 73 #[.slice a la ca, .slice b la cb, .agg #[.int .i64 (k : Int), .int .i64 (x : Int), .int .i64 (y : Int), .int .i64 2, .int .i64 (u : Int), .int .i64 (v : Int), .int .i64 (ww : Int), .int .i64 (r : Int), .bool false, .int .i64 (res : Int)]] w fun e w' =>
      ∃ g c, e = .returned (.tuple #[.slice (some ⟨g, 0, none⟩) la c, .agg #[.int .i64 (k : Int), .int .i64 (x : Int), .int .i64 (y : Int), .int .i64 st', .int .i64 (ww : Int), .int .i64 (v : Int), .int .i64 (ww : Int), .int .i64 (ww : Int), .bool dn', .int .i64 res']]) ∧ w.heap.size ≤ g ∧ Own w' g (up) ∧ Below w.heap.size w w' := by
  have HL := Lib.hid hp.1
  have HP := Lib.hid hp
  have HQ := Lib.hid hq
  clear hp hq
  have HE := Lib.hid e
  have HF := Lib.hid h
  clear e h
  go_enter Tryd.func73, Tryd.ntmps73
  go_wp2_with fail
  refine (clone_own _ _ _ up _ ((HP.out.alloc hhi _).alloc (by simp; omega) _) (by simp; omega) (by omega) hm).mono ?_
  rintro e w1 ⟨g, c7, rfl, hg, ho, hb1⟩
  have BT := ((Box.new w 81 [.int .i64 (k : Int), .int .i64 (x : Int), .int .i64 (y : Int), .int .i64 2, .int .i64 (u : Int), .int .i64 (v : Int), .int .i64 (ww : Int), .int .i64 (r : Int), .bool false, .int .i64 (res : Int)]).alloc (.cells #[.int .i64 0, .int .i64 0, .int .i64 0, .int .i64 0, .int .i64 0, .int .i64 0, .int .i64 0, .int .i64 0, .bool false, .int .i64 0] 81)).below hb1
  have BR := (Box.new (w.alloc (.cells #[.int .i64 (k : Int), .int .i64 (x : Int), .int .i64 (y : Int), .int .i64 2, .int .i64 (u : Int), .int .i64 (v : Int), .int .i64 (ww : Int), .int .i64 (r : Int), .bool false, .int .i64 (res : Int)] 81)) 81 [.int .i64 0, .int .i64 0, .int .i64 0, .int .i64 0, .int .i64 0, .int .i64 0, .int .i64 0, .int .i64 0, .bool false, .int .i64 0]).below hb1
  rw [World.size_alloc] at BR
  rw [World.size_alloc, World.size_alloc] at hg
  have hs1 := BR.lt
  have hg1 := ho.1
  have HB1 : Hid (Below w.heap.size w w1) := (below_two _ _ _).trans (hb1.mono (by simp; omega))
  have HO := Lib.hid ho
  have hgw : w.heap.size ≤ g := by omega
  have n1 : w.heap.size ≠ g := by omega
  have n2 : w.heap.size + 1 ≠ g := by omega
  have n3 : g ≠ w.heap.size := by omega
  have n4 : g ≠ w.heap.size + 1 := by omega
  have n5 : w.heap.size + 1 ≠ w.heap.size := by omega
  have n6 : w.heap.size ≠ w.heap.size + 1 := by omega
  have HT := Lib.hid BT
  have HR := Lib.hid BR
  obtain ⟨_, _, _, _, _, _, _, _, _, _⟩ := BT.ten
  obtain ⟨_, _, _, _, _, _, _, _, _, _⟩ := BT.tenf
  clear BT BR hb1 ho hg
  go_wp2_with fail
  refine (jfind_11y g la c7 w.heap.size up k x y u v ww r res _ HO.out HL.out HT.out n3 hu hw hr hm HE.out).mono ?_
  rintro e w2 ⟨rfl, ho2, BT2, ht2⟩
  have hs2 := ht2.size
  have HO2 := Lib.hid ho2
  have HT2 := Lib.hid BT2
  have HR2 := Lib.hid (ht2.box HR.out n2 n5)
  have HB2 : Hid (Below w.heap.size w w2) := HB1.out.trans (ht2.below (by omega) hgw (Nat.le_refl _))
  have hg2 := ho2.1
  have hs3 : w.heap.size + 1 < w2.heap.size := by omega
  obtain ⟨_, _, _, _, _, _, _, _, _, _⟩ := BT2.ten
  obtain ⟨_, _, _, _, _, _, _, _, _, _⟩ := BT2.tenf
  clear ho2 BT2 ht2
  have H1 : Hid (∀ q0 ∈ ([.int .i64 (k : Int), .int .i64 (x : Int), .int .i64 (y : Int), .int .i64 st', .int .i64 (ww : Int), .int .i64 (v : Int), .int .i64 (ww : Int), .int .i64 (ww : Int), .bool dn', .int .i64 res'] : List Value), q0.oneCell' = true) := by intro q0 hv; simp at hv; rcases hv with rfl | rfl | rfl | rfl | rfl | rfl | rfl | rfl | rfl | rfl <;> rfl
  go_wp2_with fail
  refine (first_v _ _ _ _ _ _ _ _ _ _ st' dn' res' _ HF.out).mono ?_
  rintro e w3 ⟨rfl, hb3⟩
  have hs4 := hb3.size
  have HT3 := Lib.hid (HT2.out.below hb3)
  have HR3 := Lib.hid (HR2.out.below hb3)
  have HO3 := Lib.hid (HO2.out.below hb3 hg2)
  have HB3 : Hid (Below w.heap.size w w3) := HB2.out.trans (hb3.mono (by omega))
  have hs5 : w.heap.size < w3.heap.size := by omega
  clear hb3
  go_wp2_with (refine wpList_store_box rfl 81 _ _ rfl w.heap.size [.int .i64 (k : Int), .int .i64 (x : Int), .int .i64 (y : Int), .int .i64 st', .int .i64 (ww : Int), .int .i64 (v : Int), .int .i64 (ww : Int), .int .i64 (ww : Int), .bool dn', .int .i64 res'] rfl rfl 81 _ HT3.out Tryd.taskSize rfl H1.out ?_; intro w4 BT4 ht4)
  have HO4 := Lib.hid (ht4.own HO3.out n3 n3)
  have BR4 := ht4.box HR3.out n5 n5
  have HB4 : Hid (Below w.heap.size w w4) := Below.trans HB3.out (ht4.below (by omega) (Nat.le_refl _) (Nat.le_refl _))
  have hs6 := BR4.lt
  obtain ⟨_, _, _, _, _, _, _, _, _, _⟩ := BT4.ten
  obtain ⟨_, _, _, _, _, _, _, _, _, _⟩ := BT4.tenf
  obtain ⟨_, _, _, _, _, _, _, _, _, _⟩ := BR4.ten
  obtain ⟨_, _, _, _, _, _, _, _, _, _⟩ := BR4.tenf
  clear BT4 BR4 ht4
  go_region
  go_wp2_with fail
  refine bodyPost_ret (v := .tuple #[.slice (some ⟨g, 0, none⟩) la c7, .agg #[.int .i64 (k : Int), .int .i64 (x : Int), .int .i64 (y : Int), .int .i64 st', .int .i64 (ww : Int), .int .i64 (v : Int), .int .i64 (ww : Int), .int .i64 (ww : Int), .bool dn', .int .i64 res']]) (by simp only [results, Tryd.results73]; go_simp) rfl ⟨_, _, rfl, hgw, ?_, ?_⟩
  · refine Own.drew1 ?_; (repeat refine Own.setOther ?_ (by assumption) _); exact HO4.out
  · refine Below.drew ?_; (repeat refine Below.setCell ?_ (by first | assumption | exact Nat.le_refl _ | exact Nat.le_succ _) _); exact HB4.out

set_option maxRecDepth 100000 in
set_option maxHeartbeats 2000000 in
theorem jstep_2n (a b : Option Addr) (la ca cb : Nat) (pr : List Int) (up : List Nat) (k x : Nat) (y : Int) (u : Nat) (v : Int) (ww r res : Nat) (w : World) {lo hi lo2 hi2 : Nat}
    (hp : RowN lo hi w a la up) (hhi : hi ≤ w.heap.size) (hq : Row lo2 hi2 w b la pr) (hhi2 : hi2 ≤ w.heap.size) (hu : u < la) (hw : ww < la) (hr : r < la) (hm : la ≤ 1000000) (e : el up ww ≠ ww) :
    Calls Tryd.prog 73 #[.slice a la ca, .slice b la cb, .agg #[.int .i64 (k : Int), .int .i64 (x : Int), .int .i64 (y : Int), .int .i64 2, .int .i64 (u : Int), .int .i64 (v : Int), .int .i64 (ww : Int), .int .i64 (r : Int), .bool false, .int .i64 (res : Int)]] w fun e w' =>
      ∃ g c, e = .returned (.tuple #[.slice (some ⟨g, 0, none⟩) la c, .agg #[.int .i64 (k : Int), .int .i64 (x : Int), .int .i64 (y : Int), .int .i64 3, .int .i64 (u : Int), .int .i64 (v : Int), .int .i64 (ww : Int), .int .i64 (el up ww : Int), .bool false, .int .i64 (res : Int)]]) ∧ w.heap.size ≤ g ∧ Own w' g (up) ∧ Below w.heap.size w w' := by
  have HL := Lib.hid hp.1
  have HP := Lib.hid hp
  have HQ := Lib.hid hq
  clear hp hq
  obtain ⟨q, hq⟩ : ∃ q, el up ww = q := ⟨_, rfl⟩
  have HE := Lib.hid e
  rw [hq]
  have HQE := Lib.hid hq
  clear e hq
  go_enter Tryd.func73, Tryd.ntmps73
  go_wp2_with fail
  refine (clone_own _ _ _ up _ ((HP.out.alloc hhi _).alloc (by simp; omega) _) (by simp; omega) (by omega) hm).mono ?_
  rintro e w1 ⟨g, c7, rfl, hg, ho, hb1⟩
  have BT := ((Box.new w 81 [.int .i64 (k : Int), .int .i64 (x : Int), .int .i64 (y : Int), .int .i64 2, .int .i64 (u : Int), .int .i64 (v : Int), .int .i64 (ww : Int), .int .i64 (r : Int), .bool false, .int .i64 (res : Int)]).alloc (.cells #[.int .i64 0, .int .i64 0, .int .i64 0, .int .i64 0, .int .i64 0, .int .i64 0, .int .i64 0, .int .i64 0, .bool false, .int .i64 0] 81)).below hb1
  have BR := (Box.new (w.alloc (.cells #[.int .i64 (k : Int), .int .i64 (x : Int), .int .i64 (y : Int), .int .i64 2, .int .i64 (u : Int), .int .i64 (v : Int), .int .i64 (ww : Int), .int .i64 (r : Int), .bool false, .int .i64 (res : Int)] 81)) 81 [.int .i64 0, .int .i64 0, .int .i64 0, .int .i64 0, .int .i64 0, .int .i64 0, .int .i64 0, .int .i64 0, .bool false, .int .i64 0]).below hb1
  rw [World.size_alloc] at BR
  rw [World.size_alloc, World.size_alloc] at hg
  have hs1 := BR.lt
  have hg1 := ho.1
  have HB1 : Hid (Below w.heap.size w w1) := (below_two _ _ _).trans (hb1.mono (by simp; omega))
  have HO := Lib.hid ho
  have hgw : w.heap.size ≤ g := by omega
  have n1 : w.heap.size ≠ g := by omega
  have n2 : w.heap.size + 1 ≠ g := by omega
  have n3 : g ≠ w.heap.size := by omega
  have n4 : g ≠ w.heap.size + 1 := by omega
  have n5 : w.heap.size + 1 ≠ w.heap.size := by omega
  have n6 : w.heap.size ≠ w.heap.size + 1 := by omega
  have HT := Lib.hid BT
  have HR := Lib.hid BR
  obtain ⟨_, _, _, _, _, _, _, _, _, _⟩ := BT.ten
  obtain ⟨_, _, _, _, _, _, _, _, _, _⟩ := BT.tenf
  clear BT BR hb1 ho hg
  go_wp2_with fail
  refine (jfind_11n g la c7 w.heap.size up k x y u v ww r res _ HO.out HL.out HT.out n3 hu hw hr hm HE.out).mono ?_
  rw [HQE.out]
  rintro e w2 ⟨rfl, ho2, BT2, ht2⟩
  have hs2 := ht2.size
  have HO2 := Lib.hid ho2
  have HT2 := Lib.hid BT2
  have HR2 := Lib.hid (ht2.box HR.out n2 n5)
  have HB2 : Hid (Below w.heap.size w w2) := HB1.out.trans (ht2.below (by omega) hgw (Nat.le_refl _))
  have hg2 := ho2.1
  have hs3 : w.heap.size + 1 < w2.heap.size := by omega
  obtain ⟨_, _, _, _, _, _, _, _, _, _⟩ := BT2.ten
  obtain ⟨_, _, _, _, _, _, _, _, _, _⟩ := BT2.tenf
  clear ho2 BT2 ht2
  obtain ⟨_, _, _, _, _, _, _, _, _, _⟩ := HR2.out.ten
  obtain ⟨_, _, _, _, _, _, _, _, _, _⟩ := HR2.out.tenf
  go_wp2_with fail
  go_region
  go_wp2_with fail
  refine bodyPost_ret (v := .tuple #[.slice (some ⟨g, 0, none⟩) la c7, .agg #[.int .i64 (k : Int), .int .i64 (x : Int), .int .i64 (y : Int), .int .i64 3, .int .i64 (u : Int), .int .i64 (v : Int), .int .i64 (ww : Int), .int .i64 (q : Int), .bool false, .int .i64 (res : Int)]]) (by simp only [results, Tryd.results73]; go_simp) rfl ⟨_, _, rfl, hgw, ?_, ?_⟩
  · refine Own.drew1 ?_; (repeat refine Own.setOther ?_ (by assumption) _); exact HO2.out
  · refine Below.drew ?_; (repeat refine Below.setCell ?_ (by first | assumption | exact Nat.le_refl _ | exact Nat.le_succ _) _); exact HB2.out

set_option maxRecDepth 100000 in
set_option maxHeartbeats 2000000 in
theorem jstep_3y (a b : Option Addr) (la ca cb : Nat) (pr : List Int) (up : List Nat) (k x : Nat) (y : Int) (u : Nat) (v : Int) (ww r res : Nat) (w : World) {lo hi lo2 hi2 : Nat}
    (hp : RowN lo hi w a la up) (hhi : hi ≤ w.heap.size) (hq : Row lo2 hi2 w b la pr) (hhi2 : hi2 ≤ w.heap.size) (hu : u < la) (hw : ww < la) (hr : r < la) (hm : la ≤ 1000000) (e : el up u = ww) :
    Calls Tryd.prog 73 #[.slice a la ca, .slice b la cb, .agg #[.int .i64 (k : Int), .int .i64 (x : Int), .int .i64 (y : Int), .int .i64 3, .int .i64 (u : Int), .int .i64 (v : Int), .int .i64 (ww : Int), .int .i64 (r : Int), .bool false, .int .i64 (res : Int)]] w fun e w' =>
      ∃ g c, e = .returned (.tuple #[.slice (some ⟨g, 0, none⟩) la c, .agg #[.int .i64 (k : Int), .int .i64 (x : Int), .int .i64 (y : Int), .int .i64 1, .int .i64 (ww : Int), .int .i64 (v : Int), .int .i64 (ww : Int), .int .i64 (r : Int), .bool false, .int .i64 (res : Int)]]) ∧ w.heap.size ≤ g ∧ Own w' g (up.set u r) ∧ Below w.heap.size w w' := by
  have HL := Lib.hid hp.1
  have HP := Lib.hid hp
  have HQ := Lib.hid hq
  clear hp hq
  have HE := Lib.hid e
  clear e
  go_enter Tryd.func73, Tryd.ntmps73
  go_wp2_with fail
  refine (clone_own _ _ _ up _ ((HP.out.alloc hhi _).alloc (by simp; omega) _) (by simp; omega) (by omega) hm).mono ?_
  rintro e w1 ⟨g, c7, rfl, hg, ho, hb1⟩
  have BT := ((Box.new w 81 [.int .i64 (k : Int), .int .i64 (x : Int), .int .i64 (y : Int), .int .i64 3, .int .i64 (u : Int), .int .i64 (v : Int), .int .i64 (ww : Int), .int .i64 (r : Int), .bool false, .int .i64 (res : Int)]).alloc (.cells #[.int .i64 0, .int .i64 0, .int .i64 0, .int .i64 0, .int .i64 0, .int .i64 0, .int .i64 0, .int .i64 0, .bool false, .int .i64 0] 81)).below hb1
  have BR := (Box.new (w.alloc (.cells #[.int .i64 (k : Int), .int .i64 (x : Int), .int .i64 (y : Int), .int .i64 3, .int .i64 (u : Int), .int .i64 (v : Int), .int .i64 (ww : Int), .int .i64 (r : Int), .bool false, .int .i64 (res : Int)] 81)) 81 [.int .i64 0, .int .i64 0, .int .i64 0, .int .i64 0, .int .i64 0, .int .i64 0, .int .i64 0, .int .i64 0, .bool false, .int .i64 0]).below hb1
  rw [World.size_alloc] at BR
  rw [World.size_alloc, World.size_alloc] at hg
  have hs1 := BR.lt
  have hg1 := ho.1
  have HB1 : Hid (Below w.heap.size w w1) := (below_two _ _ _).trans (hb1.mono (by simp; omega))
  have HO := Lib.hid ho
  have hgw : w.heap.size ≤ g := by omega
  have n1 : w.heap.size ≠ g := by omega
  have n2 : w.heap.size + 1 ≠ g := by omega
  have n3 : g ≠ w.heap.size := by omega
  have n4 : g ≠ w.heap.size + 1 := by omega
  have n5 : w.heap.size + 1 ≠ w.heap.size := by omega
  have n6 : w.heap.size ≠ w.heap.size + 1 := by omega
  have HT := Lib.hid BT
  have HR := Lib.hid BR
  obtain ⟨_, _, _, _, _, _, _, _, _, _⟩ := BT.ten
  obtain ⟨_, _, _, _, _, _, _, _, _, _⟩ := BT.tenf
  clear BT BR hb1 ho hg
  go_wp2_with fail
  refine (jfind_12y g la c7 w.heap.size up k x y u v ww r res _ HO.out HL.out HT.out n3 hu hw hr hm HE.out).mono ?_
  rintro e w2 ⟨rfl, ho2, BT2, ht2⟩
  have hs2 := ht2.size
  have HO2 := Lib.hid ho2
  have HT2 := Lib.hid BT2
  have HR2 := Lib.hid (ht2.box HR.out n2 n5)
  have HB2 : Hid (Below w.heap.size w w2) := HB1.out.trans (ht2.below (by omega) hgw (Nat.le_refl _))
  have hg2 := ho2.1
  have hs3 : w.heap.size + 1 < w2.heap.size := by omega
  obtain ⟨_, _, _, _, _, _, _, _, _, _⟩ := BT2.ten
  obtain ⟨_, _, _, _, _, _, _, _, _, _⟩ := BT2.tenf
  clear ho2 BT2 ht2
  obtain ⟨_, _, _, _, _, _, _, _, _, _⟩ := HR2.out.ten
  obtain ⟨_, _, _, _, _, _, _, _, _, _⟩ := HR2.out.tenf
  go_wp2_with fail
  go_region
  go_wp2_with fail
  refine bodyPost_ret (v := .tuple #[.slice (some ⟨g, 0, none⟩) la c7, .agg #[.int .i64 (k : Int), .int .i64 (x : Int), .int .i64 (y : Int), .int .i64 1, .int .i64 (ww : Int), .int .i64 (v : Int), .int .i64 (ww : Int), .int .i64 (r : Int), .bool false, .int .i64 (res : Int)]]) (by simp only [results, Tryd.results73]; go_simp) rfl ⟨_, _, rfl, hgw, ?_, ?_⟩
  · refine Own.drew1 ?_; (repeat refine Own.setOther ?_ (by assumption) _); exact HO2.out
  · refine Below.drew ?_; (repeat refine Below.setCell ?_ (by first | assumption | exact Nat.le_refl _ | exact Nat.le_succ _) _); exact HB2.out

set_option maxRecDepth 100000 in
set_option maxHeartbeats 2000000 in
theorem jstep_3n (a b : Option Addr) (la ca cb : Nat) (pr : List Int) (up : List Nat) (k x : Nat) (y : Int) (u : Nat) (v : Int) (ww r res : Nat) (w : World) {lo hi lo2 hi2 : Nat}
    (hp : RowN lo hi w a la up) (hhi : hi ≤ w.heap.size) (hq : Row lo2 hi2 w b la pr) (hhi2 : hi2 ≤ w.heap.size) (hu : u < la) (hw : ww < la) (hr : r < la) (hm : la ≤ 1000000) (e : el up u ≠ ww) :
    Calls Tryd.prog 73 #[.slice a la ca, .slice b la cb, .agg #[.int .i64 (k : Int), .int .i64 (x : Int), .int .i64 (y : Int), .int .i64 3, .int .i64 (u : Int), .int .i64 (v : Int), .int .i64 (ww : Int), .int .i64 (r : Int), .bool false, .int .i64 (res : Int)]] w fun e w' =>
      ∃ g c, e = .returned (.tuple #[.slice (some ⟨g, 0, none⟩) la c, .agg #[.int .i64 (k : Int), .int .i64 (x : Int), .int .i64 (y : Int), .int .i64 1, .int .i64 (ww : Int), .int .i64 (v : Int), .int .i64 (ww : Int), .int .i64 (r : Int), .bool false, .int .i64 (res : Int)]]) ∧ w.heap.size ≤ g ∧ Own w' g (up) ∧ Below w.heap.size w w' := by
  have HL := Lib.hid hp.1
  have HP := Lib.hid hp
  have HQ := Lib.hid hq
  clear hp hq
  have HE := Lib.hid e
  clear e
  go_enter Tryd.func73, Tryd.ntmps73
  go_wp2_with fail
  refine (clone_own _ _ _ up _ ((HP.out.alloc hhi _).alloc (by simp; omega) _) (by simp; omega) (by omega) hm).mono ?_
  rintro e w1 ⟨g, c7, rfl, hg, ho, hb1⟩
  have BT := ((Box.new w 81 [.int .i64 (k : Int), .int .i64 (x : Int), .int .i64 (y : Int), .int .i64 3, .int .i64 (u : Int), .int .i64 (v : Int), .int .i64 (ww : Int), .int .i64 (r : Int), .bool false, .int .i64 (res : Int)]).alloc (.cells #[.int .i64 0, .int .i64 0, .int .i64 0, .int .i64 0, .int .i64 0, .int .i64 0, .int .i64 0, .int .i64 0, .bool false, .int .i64 0] 81)).below hb1
  have BR := (Box.new (w.alloc (.cells #[.int .i64 (k : Int), .int .i64 (x : Int), .int .i64 (y : Int), .int .i64 3, .int .i64 (u : Int), .int .i64 (v : Int), .int .i64 (ww : Int), .int .i64 (r : Int), .bool false, .int .i64 (res : Int)] 81)) 81 [.int .i64 0, .int .i64 0, .int .i64 0, .int .i64 0, .int .i64 0, .int .i64 0, .int .i64 0, .int .i64 0, .bool false, .int .i64 0]).below hb1
  rw [World.size_alloc] at BR
  rw [World.size_alloc, World.size_alloc] at hg
  have hs1 := BR.lt
  have hg1 := ho.1
  have HB1 : Hid (Below w.heap.size w w1) := (below_two _ _ _).trans (hb1.mono (by simp; omega))
  have HO := Lib.hid ho
  have hgw : w.heap.size ≤ g := by omega
  have n1 : w.heap.size ≠ g := by omega
  have n2 : w.heap.size + 1 ≠ g := by omega
  have n3 : g ≠ w.heap.size := by omega
  have n4 : g ≠ w.heap.size + 1 := by omega
  have n5 : w.heap.size + 1 ≠ w.heap.size := by omega
  have n6 : w.heap.size ≠ w.heap.size + 1 := by omega
  have HT := Lib.hid BT
  have HR := Lib.hid BR
  obtain ⟨_, _, _, _, _, _, _, _, _, _⟩ := BT.ten
  obtain ⟨_, _, _, _, _, _, _, _, _, _⟩ := BT.tenf
  clear BT BR hb1 ho hg
  go_wp2_with fail
  refine (jfind_12n g la c7 w.heap.size up k x y u v ww r res _ HO.out HL.out HT.out n3 hu hw hr hm HE.out).mono ?_
  rintro e w2 ⟨rfl, ho2, BT2, ht2⟩
  have hs2 := ht2.size
  have HO2 := Lib.hid ho2
  have HT2 := Lib.hid BT2
  have HR2 := Lib.hid (ht2.box HR.out n2 n5)
  have HB2 : Hid (Below w.heap.size w w2) := HB1.out.trans (ht2.below (by omega) hgw (Nat.le_refl _))
  have hg2 := ho2.1
  have hs3 : w.heap.size + 1 < w2.heap.size := by omega
  obtain ⟨_, _, _, _, _, _, _, _, _, _⟩ := BT2.ten
  obtain ⟨_, _, _, _, _, _, _, _, _, _⟩ := BT2.tenf
  clear ho2 BT2 ht2
  obtain ⟨_, _, _, _, _, _, _, _, _, _⟩ := HR2.out.ten
  obtain ⟨_, _, _, _, _, _, _, _, _, _⟩ := HR2.out.tenf
  go_wp2_with fail
  go_region
  go_wp2_with fail
  refine bodyPost_ret (v := .tuple #[.slice (some ⟨g, 0, none⟩) la c7, .agg #[.int .i64 (k : Int), .int .i64 (x : Int), .int .i64 (y : Int), .int .i64 1, .int .i64 (ww : Int), .int .i64 (v : Int), .int .i64 (ww : Int), .int .i64 (r : Int), .bool false, .int .i64 (res : Int)]]) (by simp only [results, Tryd.results73]; go_simp) rfl ⟨_, _, rfl, hgw, ?_, ?_⟩
  · refine Own.drew1 ?_; (repeat refine Own.setOther ?_ (by assumption) _); exact HO2.out
  · refine Below.drew ?_; (repeat refine Below.setCell ?_ (by first | assumption | exact Nat.le_refl _ | exact Nat.le_succ _) _); exact HB2.out

end Go.Proofs.YtpfcpeljfgmjgaaDoor

namespace Go.Proofs.YtpfcpeljfgmjgaaDoor
open Go.RowKit
open Go.ChangeMaps (setBlock)
set_option linter.unusedVariables false
set_option linter.unusedSimpArgs false

set_option maxRecDepth 100000 in
set_option maxHeartbeats 2000000 in
theorem jrstep_dn (a b : Option Addr) (la ca cb : Nat) (pr : List Int) (up : List Nat) (k x : Nat) (y : Int) (u : Nat) (v : Int) (ww r res : Nat) (w : World) {lo hi lo2 hi2 : Nat}
    (hp : RowN lo hi w a la up) (hhi : hi ≤ w.heap.size) (hq : Row lo2 hi2 w b la pr) (hhi2 : hi2 ≤ w.heap.size) (hu : u < la) (hw : ww < la) (hr : r < la) (hm : la ≤ 1000000) (st : Nat) :
    Calls Tryd.prog 46 #[.slice a la ca, .slice b la cb, .agg #[.int .i64 (k : Int), .int .i64 (x : Int), .int .i64 (y : Int), .int .i64 (st : Int), .int .i64 (u : Int), .int .i64 (v : Int), .int .i64 (ww : Int), .int .i64 (r : Int), .bool true, .int .i64 (res : Int)]] w fun e w' =>
      ∃ g c, e = .returned (.agg #[.slice (some ⟨g, 0, none⟩) la c, .int .i64 (k : Int), .int .i64 (x : Int), .int .i64 (y : Int), .int .i64 (st : Int), .int .i64 (u : Int), .int .i64 (v : Int), .int .i64 (ww : Int), .int .i64 (r : Int), .bool true, .int .i64 (res : Int)]) ∧ w.heap.size ≤ g ∧ Own w' g (up) ∧ Below w.heap.size w w' := by
  obtain ⟨bb, off, rfl, _, hbb, hc⟩ := hp.at_ hu
  have HL := Lib.hid hp.1
  have HP := Lib.hid hp
  have HQ := Lib.hid hq
  obtain ⟨i0, hi0, hz0, hz1, hz2⟩ := info_parts Tryd.info3
  have hu0 : (0 : Int) ≤ u := by omega
  have hu1 : (u : Int) < la := by omega
  have hw0 : (0 : Int) ≤ ww := by omega
  have hw1 : (ww : Int) < la := by omega
  clear hc hp hq
  go_enter Tryd.func46, Tryd.ntmps46
  go_wp2_with (at_builtin; refine wpList_append_own _ rfl _ _ 22 rfl (w.heap.size + 2) 3 i0 (.int .i64 0) 1 8 Tryd.underlying22 hi0 hz0 hz1 hz2 rfl (by decide) (.slice (some ⟨w.heap.size + 1 + 1, 0, none⟩) 0 0) 0 [] rfl ?c0 ⟨bb, off, none⟩ la ca (intsOf up) rfl ?c1 ?c2 ?c3 ?c4 ?c5 ?c6 ?_)
  case c0 => exact made_row _ _ _
  case c1 => simp [intsOf, HL.out]
  case c2 => exact three_news _ _ _ _ HP.out hhi
  case c3 => intro u hu; simp [intsOf] at hu; obtain ⟨n, _, rfl⟩ := hu; rfl
  case c4 => unfold maxLen; omega
  case c5 => omega
  case c6 => simp
  intro v7 w1 hown hgr hnn
  obtain ⟨g, c7, rfl, hg, ho, BT, BR, hb1⟩ := after_append (t1 := 81) (t2 := 94) (cs1 := [.int .i64 (k : Int), .int .i64 (x : Int), .int .i64 (y : Int), .int .i64 (st : Int), .int .i64 (u : Int), .int .i64 (v : Int), .int .i64 (ww : Int), .int .i64 (r : Int), .bool true, .int .i64 (res : Int)]) (cs2 := [.slice none 0 0, .int .i64 0, .int .i64 0, .int .i64 0, .int .i64 0, .int .i64 0, .int .i64 0, .int .i64 0, .int .i64 0, .bool false, .int .i64 0]) hgr hown HL.out (by omega)
  clear hgr hown hnn
  have hs1 := BR.lt
  have hg1 := ho.1
  have HB1 := Lib.hid hb1
  have HO := Lib.hid ho
  obtain ⟨_, _, _, _, _, _, _, _, _, _⟩ := BT.ten
  obtain ⟨_, _, _, _, _, _, _, _, _, _⟩ := BT.tenf
  have hgw : w.heap.size ≤ g := by omega
  have n5 : w.heap.size + 1 ≠ w.heap.size := by omega
  have n6 : w.heap.size ≠ w.heap.size + 1 := by omega
  have n1 : w.heap.size ≠ g := by omega
  have n2 : w.heap.size + 1 ≠ g := by omega
  have n3 : g ≠ w.heap.size := by omega
  have n4 : g ≠ w.heap.size + 1 := by omega
  have HBR := Lib.hid BR
  have HBT := Lib.hid BT
  clear BT BR hb1 ho
  obtain ⟨_, _, _, _, _, _, _, _, _, _, _⟩ := HBR.out.eleven
  obtain ⟨_, _, _, _, _, _, _, _, _, _, _⟩ := HBR.out.elevenf
  go_wp2_with fail
  refine bodyPost_ret (v := .agg #[.slice (some ⟨g, 0, none⟩) la c7, .int .i64 (k : Int), .int .i64 (x : Int), .int .i64 (y : Int), .int .i64 (st : Int), .int .i64 (u : Int), .int .i64 (v : Int), .int .i64 (ww : Int), .int .i64 (r : Int), .bool true, .int .i64 (res : Int)]) (by simp only [results, Tryd.results46]; go_simp) rfl ⟨_, _, rfl, hgw, ?_, ?_⟩
  · (repeat refine Own.setOther ?_ (by assumption) _); exact HO.out
  · (repeat refine Below.setCell ?_ (by first | assumption | exact Nat.le_refl _ | exact Nat.le_succ _) _); exact HB1.out

set_option maxRecDepth 100000 in
set_option maxHeartbeats 2000000 in
theorem jrstep_1r (a b : Option Addr) (la ca cb : Nat) (pr : List Int) (up : List Nat) (k x : Nat) (y : Int) (u : Nat) (v : Int) (ww r res : Nat) (w : World) (st' : Int) (dn' : Bool) (res' : Int) {lo hi lo2 hi2 : Nat}
    (hp : RowN lo hi w a la up) (hhi : hi ≤ w.heap.size) (hq : Row lo2 hi2 w b la pr) (hhi2 : hi2 ≤ w.heap.size) (hu : u < la) (hw : ww < la) (hr : r < la) (hm : la ≤ 1000000) (e : el up u = u) (h : Fst k u 1 false res st' dn' res') :
    Calls Tryd.prog 46 #[.slice a la ca, .slice b la cb, .agg #[.int .i64 (k : Int), .int .i64 (x : Int), .int .i64 (y : Int), .int .i64 1, .int .i64 (u : Int), .int .i64 (v : Int), .int .i64 (ww : Int), .int .i64 (r : Int), .bool false, .int .i64 (res : Int)]] w fun e w' =>
      ∃ g c, e = .returned (.agg #[.slice (some ⟨g, 0, none⟩) la c, .int .i64 (k : Int), .int .i64 (x : Int), .int .i64 (y : Int), .int .i64 st', .int .i64 (u : Int), .int .i64 (v : Int), .int .i64 (u : Int), .int .i64 (r : Int), .bool dn', .int .i64 res']) ∧ w.heap.size ≤ g ∧ Own w' g (up) ∧ Below w.heap.size w w' := by
  obtain ⟨bb, off, rfl, _, hbb, hc⟩ := hp.at_ hu
  have HL := Lib.hid hp.1
  have HP := Lib.hid hp
  have HQ := Lib.hid hq
  obtain ⟨i0, hi0, hz0, hz1, hz2⟩ := info_parts Tryd.info3
  have hu0 : (0 : Int) ≤ u := by omega
  have hu1 : (u : Int) < la := by omega
  have hw0 : (0 : Int) ≤ ww := by omega
  have hw1 : (ww : Int) < la := by omega
  clear hc hp hq
  have HF := Lib.hid h
  clear h
  go_enter Tryd.func46, Tryd.ntmps46
  go_wp2_with (at_builtin; refine wpList_append_own _ rfl _ _ 22 rfl (w.heap.size + 2) 3 i0 (.int .i64 0) 1 8 Tryd.underlying22 hi0 hz0 hz1 hz2 rfl (by decide) (.slice (some ⟨w.heap.size + 1 + 1, 0, none⟩) 0 0) 0 [] rfl ?c0 ⟨bb, off, none⟩ la ca (intsOf up) rfl ?c1 ?c2 ?c3 ?c4 ?c5 ?c6 ?_)
  case c0 => exact made_row _ _ _
  case c1 => simp [intsOf, HL.out]
  case c2 => exact three_news _ _ _ _ HP.out hhi
  case c3 => intro u hu; simp [intsOf] at hu; obtain ⟨n, _, rfl⟩ := hu; rfl
  case c4 => unfold maxLen; omega
  case c5 => omega
  case c6 => simp
  intro v7 w1 hown hgr hnn
  obtain ⟨g, c7, rfl, hg, ho, BT, BR, hb1⟩ := after_append (t1 := 81) (t2 := 94) (cs1 := [.int .i64 (k : Int), .int .i64 (x : Int), .int .i64 (y : Int), .int .i64 1, .int .i64 (u : Int), .int .i64 (v : Int), .int .i64 (ww : Int), .int .i64 (r : Int), .bool false, .int .i64 (res : Int)]) (cs2 := [.slice none 0 0, .int .i64 0, .int .i64 0, .int .i64 0, .int .i64 0, .int .i64 0, .int .i64 0, .int .i64 0, .int .i64 0, .bool false, .int .i64 0]) hgr hown HL.out (by omega)
  clear hgr hown hnn
  have hs1 := BR.lt
  have hg1 := ho.1
  have HB1 := Lib.hid hb1
  have HO := Lib.hid ho
  obtain ⟨_, _, _, _, _, _, _, _, _, _⟩ := BT.ten
  obtain ⟨_, _, _, _, _, _, _, _, _, _⟩ := BT.tenf
  have hgw : w.heap.size ≤ g := by omega
  have n5 : w.heap.size + 1 ≠ w.heap.size := by omega
  have n6 : w.heap.size ≠ w.heap.size + 1 := by omega
  have n1 : w.heap.size ≠ g := by omega
  have n2 : w.heap.size + 1 ≠ g := by omega
  have n3 : g ≠ w.heap.size := by omega
  have n4 : g ≠ w.heap.size + 1 := by omega
  have HBR := Lib.hid BR
  have HBT := Lib.hid BT
  clear BT BR hb1 ho
  obtain ⟨cu, fu⟩ := HO.out.2 u (by rw [HL.out]; exact hu)
  rw [e] at cu
  have hs : ((u : Int) == (u : Int)) = true := by simp
  clear e
  go_wp2_with fail
  refine (rfirst_v _ _ _ _ _ _ _ _ _ _ st' dn' res' _ HF.out).mono ?_
  rintro e w2 ⟨rfl, hb2⟩
  have hs2 := hb2.size
  simp only [World.size_setCell, size_drewN'] at hs2
  have HO2 : Hid (Own w2 g (up)) := by refine Own.below ?_ hb2 (by simp; omega); (repeat refine Own.setOther ?_ (by assumption) _); exact HO.out
  have HB2 : Hid (Below w.heap.size w w2) := by refine Below.trans ?_ (hb2.mono (by simp; omega)); (repeat refine Below.setCell ?_ (by first | assumption | exact Nat.le_refl _ | exact Nat.le_succ _) _); exact HB1.out
  have HR2 : Hid (Box w2 (w.heap.size + 1) 94 [.slice none 0 0, .int .i64 0, .int .i64 0, .int .i64 0, .int .i64 0, .int .i64 0, .int .i64 0, .int .i64 0, .int .i64 0, .bool false, .int .i64 0]) := by refine Box.below ?_ hb2; (repeat refine Box.setOther ?_ (by assumption) _); exact HBR.out
  obtain ⟨_, _, _, _, _, _, _, _, _, _, _⟩ := HR2.out.eleven
  obtain ⟨_, _, _, _, _, _, _, _, _, _, _⟩ := HR2.out.elevenf
  have hlt2 : w.heap.size + 1 < w2.heap.size := by omega
  clear hb2 hs2
  go_wp2_with fail
  refine bodyPost_ret (v := .agg #[.slice (some ⟨g, 0, none⟩) la c7, .int .i64 (k : Int), .int .i64 (x : Int), .int .i64 (y : Int), .int .i64 st', .int .i64 (u : Int), .int .i64 (v : Int), .int .i64 (u : Int), .int .i64 (r : Int), .bool dn', .int .i64 res']) (by simp only [results, Tryd.results46]; go_simp) rfl ⟨_, _, rfl, hgw, ?_, ?_⟩
  · (repeat refine Own.setOther ?_ (by assumption) _); exact HO2.out
  · (repeat refine Below.setCell ?_ (by first | assumption | exact Nat.le_refl _ | exact Nat.le_succ _) _); exact HB2.out

set_option maxRecDepth 100000 in
set_option maxHeartbeats 2000000 in
theorem jrstep_1n (a b : Option Addr) (la ca cb : Nat) (pr : List Int) (up : List Nat) (k x : Nat) (y : Int) (u : Nat) (v : Int) (ww r res : Nat) (w : World) {lo hi lo2 hi2 : Nat}
    (hp : RowN lo hi w a la up) (hhi : hi ≤ w.heap.size) (hq : Row lo2 hi2 w b la pr) (hhi2 : hi2 ≤ w.heap.size) (hu : u < la) (hw : ww < la) (hr : r < la) (hm : la ≤ 1000000) (e : el up u ≠ u) :
    Calls Tryd.prog 46 #[.slice a la ca, .slice b la cb, .agg #[.int .i64 (k : Int), .int .i64 (x : Int), .int .i64 (y : Int), .int .i64 1, .int .i64 (u : Int), .int .i64 (v : Int), .int .i64 (ww : Int), .int .i64 (r : Int), .bool false, .int .i64 (res : Int)]] w fun e w' =>
      ∃ g c, e = .returned (.agg #[.slice (some ⟨g, 0, none⟩) la c, .int .i64 (k : Int), .int .i64 (x : Int), .int .i64 (y : Int), .int .i64 2, .int .i64 (u : Int), .int .i64 (v : Int), .int .i64 (el up u : Int), .int .i64 (r : Int), .bool false, .int .i64 (res : Int)]) ∧ w.heap.size ≤ g ∧ Own w' g (up) ∧ Below w.heap.size w w' := by
  obtain ⟨bb, off, rfl, _, hbb, hc⟩ := hp.at_ hu
  have HL := Lib.hid hp.1
  have HP := Lib.hid hp
  have HQ := Lib.hid hq
  obtain ⟨i0, hi0, hz0, hz1, hz2⟩ := info_parts Tryd.info3
  have hu0 : (0 : Int) ≤ u := by omega
  have hu1 : (u : Int) < la := by omega
  have hw0 : (0 : Int) ≤ ww := by omega
  have hw1 : (ww : Int) < la := by omega
  clear hc hp hq
  obtain ⟨q, hq⟩ : ∃ q, el up u = q := ⟨_, rfl⟩
  rw [hq] at e ⊢
  have HE := Lib.hid hq
  have hs : ((q : Int) == (u : Int)) = false := by simp; omega
  clear e hq
  go_enter Tryd.func46, Tryd.ntmps46
  go_wp2_with (at_builtin; refine wpList_append_own _ rfl _ _ 22 rfl (w.heap.size + 2) 3 i0 (.int .i64 0) 1 8 Tryd.underlying22 hi0 hz0 hz1 hz2 rfl (by decide) (.slice (some ⟨w.heap.size + 1 + 1, 0, none⟩) 0 0) 0 [] rfl ?c0 ⟨bb, off, none⟩ la ca (intsOf up) rfl ?c1 ?c2 ?c3 ?c4 ?c5 ?c6 ?_)
  case c0 => exact made_row _ _ _
  case c1 => simp [intsOf, HL.out]
  case c2 => exact three_news _ _ _ _ HP.out hhi
  case c3 => intro u hu; simp [intsOf] at hu; obtain ⟨n, _, rfl⟩ := hu; rfl
  case c4 => unfold maxLen; omega
  case c5 => omega
  case c6 => simp
  intro v7 w1 hown hgr hnn
  obtain ⟨g, c7, rfl, hg, ho, BT, BR, hb1⟩ := after_append (t1 := 81) (t2 := 94) (cs1 := [.int .i64 (k : Int), .int .i64 (x : Int), .int .i64 (y : Int), .int .i64 1, .int .i64 (u : Int), .int .i64 (v : Int), .int .i64 (ww : Int), .int .i64 (r : Int), .bool false, .int .i64 (res : Int)]) (cs2 := [.slice none 0 0, .int .i64 0, .int .i64 0, .int .i64 0, .int .i64 0, .int .i64 0, .int .i64 0, .int .i64 0, .int .i64 0, .bool false, .int .i64 0]) hgr hown HL.out (by omega)
  clear hgr hown hnn
  have hs1 := BR.lt
  have hg1 := ho.1
  have HB1 := Lib.hid hb1
  have HO := Lib.hid ho
  obtain ⟨_, _, _, _, _, _, _, _, _, _⟩ := BT.ten
  obtain ⟨_, _, _, _, _, _, _, _, _, _⟩ := BT.tenf
  have hgw : w.heap.size ≤ g := by omega
  have n5 : w.heap.size + 1 ≠ w.heap.size := by omega
  have n6 : w.heap.size ≠ w.heap.size + 1 := by omega
  have n1 : w.heap.size ≠ g := by omega
  have n2 : w.heap.size + 1 ≠ g := by omega
  have n3 : g ≠ w.heap.size := by omega
  have n4 : g ≠ w.heap.size + 1 := by omega
  have HBR := Lib.hid BR
  have HBT := Lib.hid BT
  clear BT BR hb1 ho
  obtain ⟨cu, fu⟩ := HO.out.2 u (by rw [HL.out]; exact hu)
  rw [HE.out] at cu
  obtain ⟨_, _, _, _, _, _, _, _, _, _, _⟩ := HBR.out.eleven
  obtain ⟨_, _, _, _, _, _, _, _, _, _, _⟩ := HBR.out.elevenf
  go_wp2_with fail
  refine bodyPost_ret (v := .agg #[.slice (some ⟨g, 0, none⟩) la c7, .int .i64 (k : Int), .int .i64 (x : Int), .int .i64 (y : Int), .int .i64 2, .int .i64 (u : Int), .int .i64 (v : Int), .int .i64 (q : Int), .int .i64 (r : Int), .bool false, .int .i64 (res : Int)]) (by simp only [results, Tryd.results46]; go_simp) rfl ⟨_, _, rfl, hgw, ?_, ?_⟩
  · (repeat refine Own.setOther ?_ (by assumption) _); exact HO.out
  · (repeat refine Below.setCell ?_ (by first | assumption | exact Nat.le_refl _ | exact Nat.le_succ _) _); exact HB1.out

set_option maxRecDepth 100000 in
set_option maxHeartbeats 2000000 in
theorem jrstep_2r (a b : Option Addr) (la ca cb : Nat) (pr : List Int) (up : List Nat) (k x : Nat) (y : Int) (u : Nat) (v : Int) (ww r res : Nat) (w : World) (st' : Int) (dn' : Bool) (res' : Int) {lo hi lo2 hi2 : Nat}
    (hp : RowN lo hi w a la up) (hhi : hi ≤ w.heap.size) (hq : Row lo2 hi2 w b la pr) (hhi2 : hi2 ≤ w.heap.size) (hu : u < la) (hw : ww < la) (hr : r < la) (hm : la ≤ 1000000) (e : el up ww = ww) (h : Fst k ww 2 false res st' dn' res') :
    Calls Tryd.prog 46 #[.slice a la ca, .slice b la cb, .agg #[.int .i64 (k : Int), .int .i64 (x : Int), .int .i64 (y : Int), .int .i64 2, .int .i64 (u : Int), .int .i64 (v : Int), .int .i64 (ww : Int), .int .i64 (r : Int), .bool false, .int .i64 (res : Int)]] w fun e w' =>
      ∃ g c, e = .returned (.agg #[.slice (some ⟨g, 0, none⟩) la c, .int .i64 (k : Int), .int .i64 (x : Int), .int .i64 (y : Int), .int .i64 st', .int .i64 (ww : Int), .int .i64 (v : Int), .int .i64 (ww : Int), .int .i64 (ww : Int), .bool dn', .int .i64 res']) ∧ w.heap.size ≤ g ∧ Own w' g (up) ∧ Below w.heap.size w w' := by
  obtain ⟨bb, off, rfl, _, hbb, hc⟩ := hp.at_ hu
  have HL := Lib.hid hp.1
  have HP := Lib.hid hp
  have HQ := Lib.hid hq
  obtain ⟨i0, hi0, hz0, hz1, hz2⟩ := info_parts Tryd.info3
  have hu0 : (0 : Int) ≤ u := by omega
  have hu1 : (u : Int) < la := by omega
  have hw0 : (0 : Int) ≤ ww := by omega
  have hw1 : (ww : Int) < la := by omega
  clear hc hp hq
  have HF := Lib.hid h
  clear h
  go_enter Tryd.func46, Tryd.ntmps46
  go_wp2_with (at_builtin; refine wpList_append_own _ rfl _ _ 22 rfl (w.heap.size + 2) 3 i0 (.int .i64 0) 1 8 Tryd.underlying22 hi0 hz0 hz1 hz2 rfl (by decide) (.slice (some ⟨w.heap.size + 1 + 1, 0, none⟩) 0 0) 0 [] rfl ?c0 ⟨bb, off, none⟩ la ca (intsOf up) rfl ?c1 ?c2 ?c3 ?c4 ?c5 ?c6 ?_)
  case c0 => exact made_row _ _ _
  case c1 => simp [intsOf, HL.out]
  case c2 => exact three_news _ _ _ _ HP.out hhi
  case c3 => intro u hu; simp [intsOf] at hu; obtain ⟨n, _, rfl⟩ := hu; rfl
  case c4 => unfold maxLen; omega
  case c5 => omega
  case c6 => simp
  intro v7 w1 hown hgr hnn
  obtain ⟨g, c7, rfl, hg, ho, BT, BR, hb1⟩ := after_append (t1 := 81) (t2 := 94) (cs1 := [.int .i64 (k : Int), .int .i64 (x : Int), .int .i64 (y : Int), .int .i64 2, .int .i64 (u : Int), .int .i64 (v : Int), .int .i64 (ww : Int), .int .i64 (r : Int), .bool false, .int .i64 (res : Int)]) (cs2 := [.slice none 0 0, .int .i64 0, .int .i64 0, .int .i64 0, .int .i64 0, .int .i64 0, .int .i64 0, .int .i64 0, .int .i64 0, .bool false, .int .i64 0]) hgr hown HL.out (by omega)
  clear hgr hown hnn
  have hs1 := BR.lt
  have hg1 := ho.1
  have HB1 := Lib.hid hb1
  have HO := Lib.hid ho
  obtain ⟨_, _, _, _, _, _, _, _, _, _⟩ := BT.ten
  obtain ⟨_, _, _, _, _, _, _, _, _, _⟩ := BT.tenf
  have hgw : w.heap.size ≤ g := by omega
  have n5 : w.heap.size + 1 ≠ w.heap.size := by omega
  have n6 : w.heap.size ≠ w.heap.size + 1 := by omega
  have n1 : w.heap.size ≠ g := by omega
  have n2 : w.heap.size + 1 ≠ g := by omega
  have n3 : g ≠ w.heap.size := by omega
  have n4 : g ≠ w.heap.size + 1 := by omega
  have HBR := Lib.hid BR
  have HBT := Lib.hid BT
  clear BT BR hb1 ho
  obtain ⟨cww, fww⟩ := HO.out.2 ww (by rw [HL.out]; exact hw)
  rw [e] at cww
  have hs : ((ww : Int) == (ww : Int)) = true := by simp
  clear e
  go_wp2_with fail
  refine (rfirst_v _ _ _ _ _ _ _ _ _ _ st' dn' res' _ HF.out).mono ?_
  rintro e w2 ⟨rfl, hb2⟩
  have hs2 := hb2.size
  simp only [World.size_setCell, size_drewN'] at hs2
  have HO2 : Hid (Own w2 g (up)) := by refine Own.below ?_ hb2 (by simp; omega); (repeat refine Own.setOther ?_ (by assumption) _); exact HO.out
  have HB2 : Hid (Below w.heap.size w w2) := by refine Below.trans ?_ (hb2.mono (by simp; omega)); (repeat refine Below.setCell ?_ (by first | assumption | exact Nat.le_refl _ | exact Nat.le_succ _) _); exact HB1.out
  have HR2 : Hid (Box w2 (w.heap.size + 1) 94 [.slice none 0 0, .int .i64 0, .int .i64 0, .int .i64 0, .int .i64 0, .int .i64 0, .int .i64 0, .int .i64 0, .int .i64 0, .bool false, .int .i64 0]) := by refine Box.below ?_ hb2; (repeat refine Box.setOther ?_ (by assumption) _); exact HBR.out
  obtain ⟨_, _, _, _, _, _, _, _, _, _, _⟩ := HR2.out.eleven
  obtain ⟨_, _, _, _, _, _, _, _, _, _, _⟩ := HR2.out.elevenf
  have hlt2 : w.heap.size + 1 < w2.heap.size := by omega
  clear hb2 hs2
  go_wp2_with fail
  refine bodyPost_ret (v := .agg #[.slice (some ⟨g, 0, none⟩) la c7, .int .i64 (k : Int), .int .i64 (x : Int), .int .i64 (y : Int), .int .i64 st', .int .i64 (ww : Int), .int .i64 (v : Int), .int .i64 (ww : Int), .int .i64 (ww : Int), .bool dn', .int .i64 res']) (by simp only [results, Tryd.results46]; go_simp) rfl ⟨_, _, rfl, hgw, ?_, ?_⟩
  · (repeat refine Own.setOther ?_ (by assumption) _); exact HO2.out
  · (repeat refine Below.setCell ?_ (by first | assumption | exact Nat.le_refl _ | exact Nat.le_succ _) _); exact HB2.out

set_option maxRecDepth 100000 in
set_option maxHeartbeats 2000000 in
theorem jrstep_2n (a b : Option Addr) (la ca cb : Nat) (pr : List Int) (up : List Nat) (k x : Nat) (y : Int) (u : Nat) (v : Int) (ww r res : Nat) (w : World) {lo hi lo2 hi2 : Nat}
    (hp : RowN lo hi w a la up) (hhi : hi ≤ w.heap.size) (hq : Row lo2 hi2 w b la pr) (hhi2 : hi2 ≤ w.heap.size) (hu : u < la) (hw : ww < la) (hr : r < la) (hm : la ≤ 1000000) (e : el up ww ≠ ww) :
    Calls Tryd.prog 46 #[.slice a la ca, .slice b la cb, .agg #[.int .i64 (k : Int), .int .i64 (x : Int), .int .i64 (y : Int), .int .i64 2, .int .i64 (u : Int), .int .i64 (v : Int), .int .i64 (ww : Int), .int .i64 (r : Int), .bool false, .int .i64 (res : Int)]] w fun e w' =>
      ∃ g c, e = .returned (.agg #[.slice (some ⟨g, 0, none⟩) la c, .int .i64 (k : Int), .int .i64 (x : Int), .int .i64 (y : Int), .int .i64 3, .int .i64 (u : Int), .int .i64 (v : Int), .int .i64 (ww : Int), .int .i64 (el up ww : Int), .bool false, .int .i64 (res : Int)]) ∧ w.heap.size ≤ g ∧ Own w' g (up) ∧ Below w.heap.size w w' := by
  obtain ⟨bb, off, rfl, _, hbb, hc⟩ := hp.at_ hu
  have HL := Lib.hid hp.1
  have HP := Lib.hid hp
  have HQ := Lib.hid hq
  obtain ⟨i0, hi0, hz0, hz1, hz2⟩ := info_parts Tryd.info3
  have hu0 : (0 : Int) ≤ u := by omega
  have hu1 : (u : Int) < la := by omega
  have hw0 : (0 : Int) ≤ ww := by omega
  have hw1 : (ww : Int) < la := by omega
  clear hc hp hq
  obtain ⟨q, hq⟩ : ∃ q, el up ww = q := ⟨_, rfl⟩
  rw [hq] at e ⊢
  have HE := Lib.hid hq
  have hs : ((q : Int) == (ww : Int)) = false := by simp; omega
  clear e hq
  go_enter Tryd.func46, Tryd.ntmps46
  go_wp2_with (at_builtin; refine wpList_append_own _ rfl _ _ 22 rfl (w.heap.size + 2) 3 i0 (.int .i64 0) 1 8 Tryd.underlying22 hi0 hz0 hz1 hz2 rfl (by decide) (.slice (some ⟨w.heap.size + 1 + 1, 0, none⟩) 0 0) 0 [] rfl ?c0 ⟨bb, off, none⟩ la ca (intsOf up) rfl ?c1 ?c2 ?c3 ?c4 ?c5 ?c6 ?_)
  case c0 => exact made_row _ _ _
  case c1 => simp [intsOf, HL.out]
  case c2 => exact three_news _ _ _ _ HP.out hhi
  case c3 => intro u hu; simp [intsOf] at hu; obtain ⟨n, _, rfl⟩ := hu; rfl
  case c4 => unfold maxLen; omega
  case c5 => omega
  case c6 => simp
  intro v7 w1 hown hgr hnn
  obtain ⟨g, c7, rfl, hg, ho, BT, BR, hb1⟩ := after_append (t1 := 81) (t2 := 94) (cs1 := [.int .i64 (k : Int), .int .i64 (x : Int), .int .i64 (y : Int), .int .i64 2, .int .i64 (u : Int), .int .i64 (v : Int), .int .i64 (ww : Int), .int .i64 (r : Int), .bool false, .int .i64 (res : Int)]) (cs2 := [.slice none 0 0, .int .i64 0, .int .i64 0, .int .i64 0, .int .i64 0, .int .i64 0, .int .i64 0, .int .i64 0, .int .i64 0, .bool false, .int .i64 0]) hgr hown HL.out (by omega)
  clear hgr hown hnn
  have hs1 := BR.lt
  have hg1 := ho.1
  have HB1 := Lib.hid hb1
  have HO := Lib.hid ho
  obtain ⟨_, _, _, _, _, _, _, _, _, _⟩ := BT.ten
  obtain ⟨_, _, _, _, _, _, _, _, _, _⟩ := BT.tenf
  have hgw : w.heap.size ≤ g := by omega
  have n5 : w.heap.size + 1 ≠ w.heap.size := by omega
  have n6 : w.heap.size ≠ w.heap.size + 1 := by omega
  have n1 : w.heap.size ≠ g := by omega
  have n2 : w.heap.size + 1 ≠ g := by omega
  have n3 : g ≠ w.heap.size := by omega
  have n4 : g ≠ w.heap.size + 1 := by omega
  have HBR := Lib.hid BR
  have HBT := Lib.hid BT
  clear BT BR hb1 ho
  obtain ⟨cww, fww⟩ := HO.out.2 ww (by rw [HL.out]; exact hw)
  rw [HE.out] at cww
  obtain ⟨_, _, _, _, _, _, _, _, _, _, _⟩ := HBR.out.eleven
  obtain ⟨_, _, _, _, _, _, _, _, _, _, _⟩ := HBR.out.elevenf
  go_wp2_with fail
  refine bodyPost_ret (v := .agg #[.slice (some ⟨g, 0, none⟩) la c7, .int .i64 (k : Int), .int .i64 (x : Int), .int .i64 (y : Int), .int .i64 3, .int .i64 (u : Int), .int .i64 (v : Int), .int .i64 (ww : Int), .int .i64 (q : Int), .bool false, .int .i64 (res : Int)]) (by simp only [results, Tryd.results46]; go_simp) rfl ⟨_, _, rfl, hgw, ?_, ?_⟩
  · (repeat refine Own.setOther ?_ (by assumption) _); exact HO.out
  · (repeat refine Below.setCell ?_ (by first | assumption | exact Nat.le_refl _ | exact Nat.le_succ _) _); exact HB1.out

set_option maxRecDepth 100000 in
set_option maxHeartbeats 2000000 in
theorem jrstep_3y (a b : Option Addr) (la ca cb : Nat) (pr : List Int) (up : List Nat) (k x : Nat) (y : Int) (u : Nat) (v : Int) (ww r res : Nat) (w : World) {lo hi lo2 hi2 : Nat}
    (hp : RowN lo hi w a la up) (hhi : hi ≤ w.heap.size) (hq : Row lo2 hi2 w b la pr) (hhi2 : hi2 ≤ w.heap.size) (hu : u < la) (hw : ww < la) (hr : r < la) (hm : la ≤ 1000000) (e : el up u = ww) :
    Calls Tryd.prog 46 #[.slice a la ca, .slice b la cb, .agg #[.int .i64 (k : Int), .int .i64 (x : Int), .int .i64 (y : Int), .int .i64 3, .int .i64 (u : Int), .int .i64 (v : Int), .int .i64 (ww : Int), .int .i64 (r : Int), .bool false, .int .i64 (res : Int)]] w fun e w' =>
      ∃ g c, e = .returned (.agg #[.slice (some ⟨g, 0, none⟩) la c, .int .i64 (k : Int), .int .i64 (x : Int), .int .i64 (y : Int), .int .i64 1, .int .i64 (ww : Int), .int .i64 (v : Int), .int .i64 (ww : Int), .int .i64 (r : Int), .bool false, .int .i64 (res : Int)]) ∧ w.heap.size ≤ g ∧ Own w' g (up.set u r) ∧ Below w.heap.size w w' := by
  obtain ⟨bb, off, rfl, _, hbb, hc⟩ := hp.at_ hu
  have HL := Lib.hid hp.1
  have HP := Lib.hid hp
  have HQ := Lib.hid hq
  obtain ⟨i0, hi0, hz0, hz1, hz2⟩ := info_parts Tryd.info3
  have hu0 : (0 : Int) ≤ u := by omega
  have hu1 : (u : Int) < la := by omega
  have hw0 : (0 : Int) ≤ ww := by omega
  have hw1 : (ww : Int) < la := by omega
  clear hc hp hq
  have HE := Lib.hid e
  clear e
  go_enter Tryd.func46, Tryd.ntmps46
  go_wp2_with (at_builtin; refine wpList_append_own _ rfl _ _ 22 rfl (w.heap.size + 2) 3 i0 (.int .i64 0) 1 8 Tryd.underlying22 hi0 hz0 hz1 hz2 rfl (by decide) (.slice (some ⟨w.heap.size + 1 + 1, 0, none⟩) 0 0) 0 [] rfl ?c0 ⟨bb, off, none⟩ la ca (intsOf up) rfl ?c1 ?c2 ?c3 ?c4 ?c5 ?c6 ?_)
  case c0 => exact made_row _ _ _
  case c1 => simp [intsOf, HL.out]
  case c2 => exact three_news _ _ _ _ HP.out hhi
  case c3 => intro u hu; simp [intsOf] at hu; obtain ⟨n, _, rfl⟩ := hu; rfl
  case c4 => unfold maxLen; omega
  case c5 => omega
  case c6 => simp
  intro v7 w1 hown hgr hnn
  obtain ⟨g, c7, rfl, hg, ho, BT, BR, hb1⟩ := after_append (t1 := 81) (t2 := 94) (cs1 := [.int .i64 (k : Int), .int .i64 (x : Int), .int .i64 (y : Int), .int .i64 3, .int .i64 (u : Int), .int .i64 (v : Int), .int .i64 (ww : Int), .int .i64 (r : Int), .bool false, .int .i64 (res : Int)]) (cs2 := [.slice none 0 0, .int .i64 0, .int .i64 0, .int .i64 0, .int .i64 0, .int .i64 0, .int .i64 0, .int .i64 0, .int .i64 0, .bool false, .int .i64 0]) hgr hown HL.out (by omega)
  clear hgr hown hnn
  have hs1 := BR.lt
  have hg1 := ho.1
  have HB1 := Lib.hid hb1
  have HO := Lib.hid ho
  obtain ⟨_, _, _, _, _, _, _, _, _, _⟩ := BT.ten
  obtain ⟨_, _, _, _, _, _, _, _, _, _⟩ := BT.tenf
  have hgw : w.heap.size ≤ g := by omega
  have n5 : w.heap.size + 1 ≠ w.heap.size := by omega
  have n6 : w.heap.size ≠ w.heap.size + 1 := by omega
  have n1 : w.heap.size ≠ g := by omega
  have n2 : w.heap.size + 1 ≠ g := by omega
  have n3 : g ≠ w.heap.size := by omega
  have n4 : g ≠ w.heap.size + 1 := by omega
  have HBR := Lib.hid BR
  have HBT := Lib.hid BT
  clear BT BR hb1 ho
  obtain ⟨_, _, _, _, _, _, _, _, _, _, _⟩ := HBR.out.eleven
  obtain ⟨_, _, _, _, _, _, _, _, _, _, _⟩ := HBR.out.elevenf
  go_wp2_with fail
  refine (swap_yes g la c7 up u ww r _ HO.out HL.out hu HE.out hm).mono ?_
  rintro e w' ⟨rfl, rfl⟩
  have hg2 : g < (w1.setCell ⟨g, u, none⟩ (.int .i64 (r : Int))).heap.size := by simpa using hg1
  go_wp2_with fail
  refine bodyPost_ret (v := .agg #[.slice (some ⟨g, 0, none⟩) la c7, .int .i64 (k : Int), .int .i64 (x : Int), .int .i64 (y : Int), .int .i64 1, .int .i64 (ww : Int), .int .i64 (v : Int), .int .i64 (ww : Int), .int .i64 (r : Int), .bool false, .int .i64 (res : Int)]) (by simp only [results, Tryd.results46]; go_simp) rfl ⟨_, _, rfl, hgw, ?_, ?_⟩
  · (repeat refine Own.setOther ?_ (by assumption) _); exact HO.out.put (by rw [HL.out]; exact hu)
  · (repeat refine Below.setCell ?_ (by first | assumption | exact Nat.le_refl _ | exact Nat.le_succ _) _); exact HB1.out

set_option maxRecDepth 100000 in
set_option maxHeartbeats 2000000 in
theorem jrstep_3n (a b : Option Addr) (la ca cb : Nat) (pr : List Int) (up : List Nat) (k x : Nat) (y : Int) (u : Nat) (v : Int) (ww r res : Nat) (w : World) {lo hi lo2 hi2 : Nat}
    (hp : RowN lo hi w a la up) (hhi : hi ≤ w.heap.size) (hq : Row lo2 hi2 w b la pr) (hhi2 : hi2 ≤ w.heap.size) (hu : u < la) (hw : ww < la) (hr : r < la) (hm : la ≤ 1000000) (e : el up u ≠ ww) :
    Calls Tryd.prog 46 #[.slice a la ca, .slice b la cb, .agg #[.int .i64 (k : Int), .int .i64 (x : Int), .int .i64 (y : Int), .int .i64 3, .int .i64 (u : Int), .int .i64 (v : Int), .int .i64 (ww : Int), .int .i64 (r : Int), .bool false, .int .i64 (res : Int)]] w fun e w' =>
      ∃ g c, e = .returned (.agg #[.slice (some ⟨g, 0, none⟩) la c, .int .i64 (k : Int), .int .i64 (x : Int), .int .i64 (y : Int), .int .i64 1, .int .i64 (ww : Int), .int .i64 (v : Int), .int .i64 (ww : Int), .int .i64 (r : Int), .bool false, .int .i64 (res : Int)]) ∧ w.heap.size ≤ g ∧ Own w' g (up) ∧ Below w.heap.size w w' := by
  obtain ⟨bb, off, rfl, _, hbb, hc⟩ := hp.at_ hu
  have HL := Lib.hid hp.1
  have HP := Lib.hid hp
  have HQ := Lib.hid hq
  obtain ⟨i0, hi0, hz0, hz1, hz2⟩ := info_parts Tryd.info3
  have hu0 : (0 : Int) ≤ u := by omega
  have hu1 : (u : Int) < la := by omega
  have hw0 : (0 : Int) ≤ ww := by omega
  have hw1 : (ww : Int) < la := by omega
  clear hc hp hq
  have HE := Lib.hid e
  clear e
  go_enter Tryd.func46, Tryd.ntmps46
  go_wp2_with (at_builtin; refine wpList_append_own _ rfl _ _ 22 rfl (w.heap.size + 2) 3 i0 (.int .i64 0) 1 8 Tryd.underlying22 hi0 hz0 hz1 hz2 rfl (by decide) (.slice (some ⟨w.heap.size + 1 + 1, 0, none⟩) 0 0) 0 [] rfl ?c0 ⟨bb, off, none⟩ la ca (intsOf up) rfl ?c1 ?c2 ?c3 ?c4 ?c5 ?c6 ?_)
  case c0 => exact made_row _ _ _
  case c1 => simp [intsOf, HL.out]
  case c2 => exact three_news _ _ _ _ HP.out hhi
  case c3 => intro u hu; simp [intsOf] at hu; obtain ⟨n, _, rfl⟩ := hu; rfl
  case c4 => unfold maxLen; omega
  case c5 => omega
  case c6 => simp
  intro v7 w1 hown hgr hnn
  obtain ⟨g, c7, rfl, hg, ho, BT, BR, hb1⟩ := after_append (t1 := 81) (t2 := 94) (cs1 := [.int .i64 (k : Int), .int .i64 (x : Int), .int .i64 (y : Int), .int .i64 3, .int .i64 (u : Int), .int .i64 (v : Int), .int .i64 (ww : Int), .int .i64 (r : Int), .bool false, .int .i64 (res : Int)]) (cs2 := [.slice none 0 0, .int .i64 0, .int .i64 0, .int .i64 0, .int .i64 0, .int .i64 0, .int .i64 0, .int .i64 0, .int .i64 0, .bool false, .int .i64 0]) hgr hown HL.out (by omega)
  clear hgr hown hnn
  have hs1 := BR.lt
  have hg1 := ho.1
  have HB1 := Lib.hid hb1
  have HO := Lib.hid ho
  obtain ⟨_, _, _, _, _, _, _, _, _, _⟩ := BT.ten
  obtain ⟨_, _, _, _, _, _, _, _, _, _⟩ := BT.tenf
  have hgw : w.heap.size ≤ g := by omega
  have n5 : w.heap.size + 1 ≠ w.heap.size := by omega
  have n6 : w.heap.size ≠ w.heap.size + 1 := by omega
  have n1 : w.heap.size ≠ g := by omega
  have n2 : w.heap.size + 1 ≠ g := by omega
  have n3 : g ≠ w.heap.size := by omega
  have n4 : g ≠ w.heap.size + 1 := by omega
  have HBR := Lib.hid BR
  have HBT := Lib.hid BT
  clear BT BR hb1 ho
  obtain ⟨_, _, _, _, _, _, _, _, _, _, _⟩ := HBR.out.eleven
  obtain ⟨_, _, _, _, _, _, _, _, _, _, _⟩ := HBR.out.elevenf
  go_wp2_with fail
  refine (swap_no g la c7 up u ww r _ HO.out HL.out hu HE.out hm).mono ?_
  rintro e w' ⟨rfl, rfl⟩
  go_wp2_with fail
  refine bodyPost_ret (v := .agg #[.slice (some ⟨g, 0, none⟩) la c7, .int .i64 (k : Int), .int .i64 (x : Int), .int .i64 (y : Int), .int .i64 1, .int .i64 (ww : Int), .int .i64 (v : Int), .int .i64 (ww : Int), .int .i64 (r : Int), .bool false, .int .i64 (res : Int)]) (by simp only [results, Tryd.results46]; go_simp) rfl ⟨_, _, rfl, hgw, ?_, ?_⟩
  · (repeat refine Own.setOther ?_ (by assumption) _); exact HO.out
  · (repeat refine Below.setCell ?_ (by first | assumption | exact Nat.le_refl _ | exact Nat.le_succ _) _); exact HB1.out

end Go.Proofs.YtpfcpeljfgmjgaaDoor
