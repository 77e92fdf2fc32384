/- Contracts of the document's Step, one way through it each. -/
import Derived.Test.YthhcchdjeeigpaaDoorCpre
namespace Go.Proofs.YthhcchdjeeigpaaDoor
open Go.RowKit
set_option linter.unusedVariables false
set_option linter.unusedSimpArgs false

set_option maxRecDepth 100000 in
set_option maxHeartbeats 2000000 in
theorem rstep_3y (a b : Option Addr) (la ca cb : Nat) (pr : List Int) (up : List Nat) (k x y u v ww r res : Nat) (w : World) {lo hi lo2 hi2 : Nat}
    (hp : RowN lo hi w a la up) (hhi : hi ≤ w.heap.size) (hq : Row lo2 hi2 w b la pr) (hhi2 : hi2 ≤ w.heap.size) (hu : u < la) (hv : v < la) (hw : ww < la) (hr : r < la) (hm : la ≤ 1000000) (e : el up u = ww) :
    Calls Tryd.prog 42 #[.slice a la ca, .slice b la cb, .agg #[.int .i64 (k : Int), .int .i64 (x : Int), .int .i64 (y : Int), .int .i64 3, .int .i64 (u : Int), .int .i64 (v : Int), .int .i64 (ww : Int), .int .i64 (r : Int), .bool false, .int .i64 (res : Int)]] w fun e w' =>
      ∃ g c, e = .returned (.agg #[.slice (some ⟨g, 0, none⟩) la c, .int .i64 (k : Int), .int .i64 (x : Int), .int .i64 (y : Int), .int .i64 1, .int .i64 (ww : Int), .int .i64 (v : Int), .int .i64 (ww : Int), .int .i64 (r : Int), .bool false, .int .i64 (res : Int)]) ∧ w.heap.size ≤ g ∧ Own w' g (up.set u r) ∧ Below w.heap.size w w' := by
  obtain ⟨bb, off, rfl, _, hbb, hc⟩ := hp.at_ hu
  have HL := Lib.hid hp.1
  have HP := Lib.hid hp
  have HQ := Lib.hid hq
  obtain ⟨i0, hi0, hz0, hz1, hz2⟩ := info_parts Tryd.info3
  have hu0 : (0 : Int) ≤ u := by omega
  have hu1 : (u : Int) < la := by omega
  have hv0 : (0 : Int) ≤ v := by omega
  have hv1 : (v : Int) < la := by omega
  have hw0 : (0 : Int) ≤ ww := by omega
  have hw1 : (ww : Int) < la := by omega
  clear hc hp hq
  have HE := Lib.hid e
  clear e
  go_enter Tryd.func42, Tryd.ntmps42
  go_wp2_with (at_builtin; refine wpList_append_own _ rfl _ _ 22 rfl (w.heap.size + 2) 3 i0 (.int .i64 0) 1 8 Tryd.underlying22 hi0 hz0 hz1 hz2 rfl (by decide) (.slice (some ⟨w.heap.size + 1 + 1, 0, none⟩) 0 0) 0 [] rfl ?c0 ⟨bb, off, none⟩ la ca (intsOf up) rfl ?c1 ?c2 ?c3 ?c4 ?c5 ?c6 ?_)
  case c0 => exact made_row _ _ _
  case c1 => simp [intsOf, HL.out]
  case c2 => exact three_news _ _ _ _ HP.out hhi
  case c3 => intro u hu; simp [intsOf] at hu; obtain ⟨n, _, rfl⟩ := hu; rfl
  case c4 => unfold maxLen; omega
  case c5 => omega
  case c6 => simp
  intro v7 w1 hown hgr hnn
  obtain ⟨g, c7, rfl, hg, ho, BT, BR, hb1⟩ := after_append (t1 := 87) (t2 := 100) (cs1 := [.int .i64 (k : Int), .int .i64 (x : Int), .int .i64 (y : Int), .int .i64 3, .int .i64 (u : Int), .int .i64 (v : Int), .int .i64 (ww : Int), .int .i64 (r : Int), .bool false, .int .i64 (res : Int)]) (cs2 := [.slice none 0 0, .int .i64 0, .int .i64 0, .int .i64 0, .int .i64 0, .int .i64 0, .int .i64 0, .int .i64 0, .int .i64 0, .bool false, .int .i64 0]) hgr hown HL.out (by omega)
  clear hgr hown hnn
  have hs1 := BR.lt
  have hg1 := ho.1
  have HB1 := Lib.hid hb1
  have HO := Lib.hid ho
  obtain ⟨_, _, _, _, _, _, _, _, _, _⟩ := BT.ten
  obtain ⟨_, _, _, _, _, _, _, _, _, _⟩ := BT.tenf
  have hgw : w.heap.size ≤ g := by omega
  have n5 : w.heap.size + 1 ≠ w.heap.size := by omega
  have n6 : w.heap.size ≠ w.heap.size + 1 := by omega
  have n1 : w.heap.size ≠ g := by omega
  have n2 : w.heap.size + 1 ≠ g := by omega
  have n3 : g ≠ w.heap.size := by omega
  have n4 : g ≠ w.heap.size + 1 := by omega
  have HBR := Lib.hid BR
  have HBT := Lib.hid BT
  clear BT BR hb1 ho
  obtain ⟨_, _, _, _, _, _, _, _, _, _, _⟩ := HBR.out.eleven
  obtain ⟨_, _, _, _, _, _, _, _, _, _, _⟩ := HBR.out.elevenf
  go_wp2_with fail
  refine (swap_yes g la c7 up u ww r _ HO.out HL.out hu HE.out hm).mono ?_
  rintro e w' ⟨rfl, rfl⟩
  have hg2 : g < (w1.setCell ⟨g, u, none⟩ (.int .i64 (r : Int))).heap.size := by simpa using hg1
  go_wp2_with fail
  refine bodyPost_ret (v := .agg #[.slice (some ⟨g, 0, none⟩) la c7, .int .i64 (k : Int), .int .i64 (x : Int), .int .i64 (y : Int), .int .i64 1, .int .i64 (ww : Int), .int .i64 (v : Int), .int .i64 (ww : Int), .int .i64 (r : Int), .bool false, .int .i64 (res : Int)]) (by simp only [results, Tryd.results42]; go_simp) rfl ⟨_, _, rfl, hgw, ?_, ?_⟩
  · (repeat refine Own.setOther ?_ (by assumption) _); exact HO.out.put (by rw [HL.out]; exact hu)
  · (repeat refine Below.setCell ?_ (by first | assumption | exact Nat.le_refl _ | exact Nat.le_succ _) _); exact HB1.out

set_option maxRecDepth 100000 in
set_option maxHeartbeats 2000000 in
theorem rstep_3n (a b : Option Addr) (la ca cb : Nat) (pr : List Int) (up : List Nat) (k x y u v ww r res : Nat) (w : World) {lo hi lo2 hi2 : Nat}
    (hp : RowN lo hi w a la up) (hhi : hi ≤ w.heap.size) (hq : Row lo2 hi2 w b la pr) (hhi2 : hi2 ≤ w.heap.size) (hu : u < la) (hv : v < la) (hw : ww < la) (hr : r < la) (hm : la ≤ 1000000) (e : el up u ≠ ww) :
    Calls Tryd.prog 42 #[.slice a la ca, .slice b la cb, .agg #[.int .i64 (k : Int), .int .i64 (x : Int), .int .i64 (y : Int), .int .i64 3, .int .i64 (u : Int), .int .i64 (v : Int), .int .i64 (ww : Int), .int .i64 (r : Int), .bool false, .int .i64 (res : Int)]] w fun e w' =>
      ∃ g c, e = .returned (.agg #[.slice (some ⟨g, 0, none⟩) la c, .int .i64 (k : Int), .int .i64 (x : Int), .int .i64 (y : Int), .int .i64 1, .int .i64 (ww : Int), .int .i64 (v : Int), .int .i64 (ww : Int), .int .i64 (r : Int), .bool false, .int .i64 (res : Int)]) ∧ w.heap.size ≤ g ∧ Own w' g (up) ∧ Below w.heap.size w w' := by
  obtain ⟨bb, off, rfl, _, hbb, hc⟩ := hp.at_ hu
  have HL := Lib.hid hp.1
  have HP := Lib.hid hp
  have HQ := Lib.hid hq
  obtain ⟨i0, hi0, hz0, hz1, hz2⟩ := info_parts Tryd.info3
  have hu0 : (0 : Int) ≤ u := by omega
  have hu1 : (u : Int) < la := by omega
  have hv0 : (0 : Int) ≤ v := by omega
  have hv1 : (v : Int) < la := by omega
  have hw0 : (0 : Int) ≤ ww := by omega
  have hw1 : (ww : Int) < la := by omega
  clear hc hp hq
  have HE := Lib.hid e
  clear e
  go_enter Tryd.func42, Tryd.ntmps42
  go_wp2_with (at_builtin; refine wpList_append_own _ rfl _ _ 22 rfl (w.heap.size + 2) 3 i0 (.int .i64 0) 1 8 Tryd.underlying22 hi0 hz0 hz1 hz2 rfl (by decide) (.slice (some ⟨w.heap.size + 1 + 1, 0, none⟩) 0 0) 0 [] rfl ?c0 ⟨bb, off, none⟩ la ca (intsOf up) rfl ?c1 ?c2 ?c3 ?c4 ?c5 ?c6 ?_)
  case c0 => exact made_row _ _ _
  case c1 => simp [intsOf, HL.out]
  case c2 => exact three_news _ _ _ _ HP.out hhi
  case c3 => intro u hu; simp [intsOf] at hu; obtain ⟨n, _, rfl⟩ := hu; rfl
  case c4 => unfold maxLen; omega
  case c5 => omega
  case c6 => simp
  intro v7 w1 hown hgr hnn
  obtain ⟨g, c7, rfl, hg, ho, BT, BR, hb1⟩ := after_append (t1 := 87) (t2 := 100) (cs1 := [.int .i64 (k : Int), .int .i64 (x : Int), .int .i64 (y : Int), .int .i64 3, .int .i64 (u : Int), .int .i64 (v : Int), .int .i64 (ww : Int), .int .i64 (r : Int), .bool false, .int .i64 (res : Int)]) (cs2 := [.slice none 0 0, .int .i64 0, .int .i64 0, .int .i64 0, .int .i64 0, .int .i64 0, .int .i64 0, .int .i64 0, .int .i64 0, .bool false, .int .i64 0]) hgr hown HL.out (by omega)
  clear hgr hown hnn
  have hs1 := BR.lt
  have hg1 := ho.1
  have HB1 := Lib.hid hb1
  have HO := Lib.hid ho
  obtain ⟨_, _, _, _, _, _, _, _, _, _⟩ := BT.ten
  obtain ⟨_, _, _, _, _, _, _, _, _, _⟩ := BT.tenf
  have hgw : w.heap.size ≤ g := by omega
  have n5 : w.heap.size + 1 ≠ w.heap.size := by omega
  have n6 : w.heap.size ≠ w.heap.size + 1 := by omega
  have n1 : w.heap.size ≠ g := by omega
  have n2 : w.heap.size + 1 ≠ g := by omega
  have n3 : g ≠ w.heap.size := by omega
  have n4 : g ≠ w.heap.size + 1 := by omega
  have HBR := Lib.hid BR
  have HBT := Lib.hid BT
  clear BT BR hb1 ho
  obtain ⟨_, _, _, _, _, _, _, _, _, _, _⟩ := HBR.out.eleven
  obtain ⟨_, _, _, _, _, _, _, _, _, _, _⟩ := HBR.out.elevenf
  go_wp2_with fail
  refine (swap_no g la c7 up u ww r _ HO.out HL.out hu HE.out hm).mono ?_
  rintro e w' ⟨rfl, rfl⟩
  go_wp2_with fail
  refine bodyPost_ret (v := .agg #[.slice (some ⟨g, 0, none⟩) la c7, .int .i64 (k : Int), .int .i64 (x : Int), .int .i64 (y : Int), .int .i64 1, .int .i64 (ww : Int), .int .i64 (v : Int), .int .i64 (ww : Int), .int .i64 (r : Int), .bool false, .int .i64 (res : Int)]) (by simp only [results, Tryd.results42]; go_simp) rfl ⟨_, _, rfl, hgw, ?_, ?_⟩
  · (repeat refine Own.setOther ?_ (by assumption) _); exact HO.out
  · (repeat refine Below.setCell ?_ (by first | assumption | exact Nat.le_refl _ | exact Nat.le_succ _) _); exact HB1.out

set_option maxRecDepth 100000 in
set_option maxHeartbeats 2000000 in
theorem rstep_6y (a b : Option Addr) (la ca cb : Nat) (pr : List Int) (up : List Nat) (k x y u v ww r res : Nat) (w : World) {lo hi lo2 hi2 : Nat}
    (hp : RowN lo hi w a la up) (hhi : hi ≤ w.heap.size) (hq : Row lo2 hi2 w b la pr) (hhi2 : hi2 ≤ w.heap.size) (hu : u < la) (hv : v < la) (hw : ww < la) (hr : r < la) (hm : la ≤ 1000000) (e : el up v = ww) :
    Calls Tryd.prog 42 #[.slice a la ca, .slice b la cb, .agg #[.int .i64 (k : Int), .int .i64 (x : Int), .int .i64 (y : Int), .int .i64 6, .int .i64 (u : Int), .int .i64 (v : Int), .int .i64 (ww : Int), .int .i64 (r : Int), .bool false, .int .i64 (res : Int)]] w fun e w' =>
      ∃ g c, e = .returned (.agg #[.slice (some ⟨g, 0, none⟩) la c, .int .i64 (k : Int), .int .i64 (x : Int), .int .i64 (y : Int), .int .i64 4, .int .i64 (u : Int), .int .i64 (ww : Int), .int .i64 (ww : Int), .int .i64 (r : Int), .bool false, .int .i64 (res : Int)]) ∧ w.heap.size ≤ g ∧ Own w' g (up.set v r) ∧ Below w.heap.size w w' := by
  obtain ⟨bb, off, rfl, _, hbb, hc⟩ := hp.at_ hu
  have HL := Lib.hid hp.1
  have HP := Lib.hid hp
  have HQ := Lib.hid hq
  obtain ⟨i0, hi0, hz0, hz1, hz2⟩ := info_parts Tryd.info3
  have hu0 : (0 : Int) ≤ u := by omega
  have hu1 : (u : Int) < la := by omega
  have hv0 : (0 : Int) ≤ v := by omega
  have hv1 : (v : Int) < la := by omega
  have hw0 : (0 : Int) ≤ ww := by omega
  have hw1 : (ww : Int) < la := by omega
  clear hc hp hq
  have HE := Lib.hid e
  clear e
  go_enter Tryd.func42, Tryd.ntmps42
  go_wp2_with (at_builtin; refine wpList_append_own _ rfl _ _ 22 rfl (w.heap.size + 2) 3 i0 (.int .i64 0) 1 8 Tryd.underlying22 hi0 hz0 hz1 hz2 rfl (by decide) (.slice (some ⟨w.heap.size + 1 + 1, 0, none⟩) 0 0) 0 [] rfl ?c0 ⟨bb, off, none⟩ la ca (intsOf up) rfl ?c1 ?c2 ?c3 ?c4 ?c5 ?c6 ?_)
  case c0 => exact made_row _ _ _
  case c1 => simp [intsOf, HL.out]
  case c2 => exact three_news _ _ _ _ HP.out hhi
  case c3 => intro u hu; simp [intsOf] at hu; obtain ⟨n, _, rfl⟩ := hu; rfl
  case c4 => unfold maxLen; omega
  case c5 => omega
  case c6 => simp
  intro v7 w1 hown hgr hnn
  obtain ⟨g, c7, rfl, hg, ho, BT, BR, hb1⟩ := after_append (t1 := 87) (t2 := 100) (cs1 := [.int .i64 (k : Int), .int .i64 (x : Int), .int .i64 (y : Int), .int .i64 6, .int .i64 (u : Int), .int .i64 (v : Int), .int .i64 (ww : Int), .int .i64 (r : Int), .bool false, .int .i64 (res : Int)]) (cs2 := [.slice none 0 0, .int .i64 0, .int .i64 0, .int .i64 0, .int .i64 0, .int .i64 0, .int .i64 0, .int .i64 0, .int .i64 0, .bool false, .int .i64 0]) hgr hown HL.out (by omega)
  clear hgr hown hnn
  have hs1 := BR.lt
  have hg1 := ho.1
  have HB1 := Lib.hid hb1
  have HO := Lib.hid ho
  obtain ⟨_, _, _, _, _, _, _, _, _, _⟩ := BT.ten
  obtain ⟨_, _, _, _, _, _, _, _, _, _⟩ := BT.tenf
  have hgw : w.heap.size ≤ g := by omega
  have n5 : w.heap.size + 1 ≠ w.heap.size := by omega
  have n6 : w.heap.size ≠ w.heap.size + 1 := by omega
  have n1 : w.heap.size ≠ g := by omega
  have n2 : w.heap.size + 1 ≠ g := by omega
  have n3 : g ≠ w.heap.size := by omega
  have n4 : g ≠ w.heap.size + 1 := by omega
  have HBR := Lib.hid BR
  have HBT := Lib.hid BT
  clear BT BR hb1 ho
  obtain ⟨_, _, _, _, _, _, _, _, _, _, _⟩ := HBR.out.eleven
  obtain ⟨_, _, _, _, _, _, _, _, _, _, _⟩ := HBR.out.elevenf
  go_wp2_with fail
  refine (swap_yes g la c7 up v ww r _ HO.out HL.out hv HE.out hm).mono ?_
  rintro e w' ⟨rfl, rfl⟩
  have hg2 : g < (w1.setCell ⟨g, v, none⟩ (.int .i64 (r : Int))).heap.size := by simpa using hg1
  go_wp2_with fail
  refine bodyPost_ret (v := .agg #[.slice (some ⟨g, 0, none⟩) la c7, .int .i64 (k : Int), .int .i64 (x : Int), .int .i64 (y : Int), .int .i64 4, .int .i64 (u : Int), .int .i64 (ww : Int), .int .i64 (ww : Int), .int .i64 (r : Int), .bool false, .int .i64 (res : Int)]) (by simp only [results, Tryd.results42]; go_simp) rfl ⟨_, _, rfl, hgw, ?_, ?_⟩
  · (repeat refine Own.setOther ?_ (by assumption) _); exact HO.out.put (by rw [HL.out]; exact hv)
  · (repeat refine Below.setCell ?_ (by first | assumption | exact Nat.le_refl _ | exact Nat.le_succ _) _); exact HB1.out

set_option maxRecDepth 100000 in
set_option maxHeartbeats 2000000 in
theorem rstep_6n (a b : Option Addr) (la ca cb : Nat) (pr : List Int) (up : List Nat) (k x y u v ww r res : Nat) (w : World) {lo hi lo2 hi2 : Nat}
    (hp : RowN lo hi w a la up) (hhi : hi ≤ w.heap.size) (hq : Row lo2 hi2 w b la pr) (hhi2 : hi2 ≤ w.heap.size) (hu : u < la) (hv : v < la) (hw : ww < la) (hr : r < la) (hm : la ≤ 1000000) (e : el up v ≠ ww) :
    Calls Tryd.prog 42 #[.slice a la ca, .slice b la cb, .agg #[.int .i64 (k : Int), .int .i64 (x : Int), .int .i64 (y : Int), .int .i64 6, .int .i64 (u : Int), .int .i64 (v : Int), .int .i64 (ww : Int), .int .i64 (r : Int), .bool false, .int .i64 (res : Int)]] w fun e w' =>
      ∃ g c, e = .returned (.agg #[.slice (some ⟨g, 0, none⟩) la c, .int .i64 (k : Int), .int .i64 (x : Int), .int .i64 (y : Int), .int .i64 4, .int .i64 (u : Int), .int .i64 (ww : Int), .int .i64 (ww : Int), .int .i64 (r : Int), .bool false, .int .i64 (res : Int)]) ∧ w.heap.size ≤ g ∧ Own w' g (up) ∧ Below w.heap.size w w' := by
  obtain ⟨bb, off, rfl, _, hbb, hc⟩ := hp.at_ hu
  have HL := Lib.hid hp.1
  have HP := Lib.hid hp
  have HQ := Lib.hid hq
  obtain ⟨i0, hi0, hz0, hz1, hz2⟩ := info_parts Tryd.info3
  have hu0 : (0 : Int) ≤ u := by omega
  have hu1 : (u : Int) < la := by omega
  have hv0 : (0 : Int) ≤ v := by omega
  have hv1 : (v : Int) < la := by omega
  have hw0 : (0 : Int) ≤ ww := by omega
  have hw1 : (ww : Int) < la := by omega
  clear hc hp hq
  have HE := Lib.hid e
  clear e
  go_enter Tryd.func42, Tryd.ntmps42
  go_wp2_with (at_builtin; refine wpList_append_own _ rfl _ _ 22 rfl (w.heap.size + 2) 3 i0 (.int .i64 0) 1 8 Tryd.underlying22 hi0 hz0 hz1 hz2 rfl (by decide) (.slice (some ⟨w.heap.size + 1 + 1, 0, none⟩) 0 0) 0 [] rfl ?c0 ⟨bb, off, none⟩ la ca (intsOf up) rfl ?c1 ?c2 ?c3 ?c4 ?c5 ?c6 ?_)
  case c0 => exact made_row _ _ _
  case c1 => simp [intsOf, HL.out]
  case c2 => exact three_news _ _ _ _ HP.out hhi
  case c3 => intro u hu; simp [intsOf] at hu; obtain ⟨n, _, rfl⟩ := hu; rfl
  case c4 => unfold maxLen; omega
  case c5 => omega
  case c6 => simp
  intro v7 w1 hown hgr hnn
  obtain ⟨g, c7, rfl, hg, ho, BT, BR, hb1⟩ := after_append (t1 := 87) (t2 := 100) (cs1 := [.int .i64 (k : Int), .int .i64 (x : Int), .int .i64 (y : Int), .int .i64 6, .int .i64 (u : Int), .int .i64 (v : Int), .int .i64 (ww : Int), .int .i64 (r : Int), .bool false, .int .i64 (res : Int)]) (cs2 := [.slice none 0 0, .int .i64 0, .int .i64 0, .int .i64 0, .int .i64 0, .int .i64 0, .int .i64 0, .int .i64 0, .int .i64 0, .bool false, .int .i64 0]) hgr hown HL.out (by omega)
  clear hgr hown hnn
  have hs1 := BR.lt
  have hg1 := ho.1
  have HB1 := Lib.hid hb1
  have HO := Lib.hid ho
  obtain ⟨_, _, _, _, _, _, _, _, _, _⟩ := BT.ten
  obtain ⟨_, _, _, _, _, _, _, _, _, _⟩ := BT.tenf
  have hgw : w.heap.size ≤ g := by omega
  have n5 : w.heap.size + 1 ≠ w.heap.size := by omega
  have n6 : w.heap.size ≠ w.heap.size + 1 := by omega
  have n1 : w.heap.size ≠ g := by omega
  have n2 : w.heap.size + 1 ≠ g := by omega
  have n3 : g ≠ w.heap.size := by omega
  have n4 : g ≠ w.heap.size + 1 := by omega
  have HBR := Lib.hid BR
  have HBT := Lib.hid BT
  clear BT BR hb1 ho
  obtain ⟨_, _, _, _, _, _, _, _, _, _, _⟩ := HBR.out.eleven
  obtain ⟨_, _, _, _, _, _, _, _, _, _, _⟩ := HBR.out.elevenf
  go_wp2_with fail
  refine (swap_no g la c7 up v ww r _ HO.out HL.out hv HE.out hm).mono ?_
  rintro e w' ⟨rfl, rfl⟩
  go_wp2_with fail
  refine bodyPost_ret (v := .agg #[.slice (some ⟨g, 0, none⟩) la c7, .int .i64 (k : Int), .int .i64 (x : Int), .int .i64 (y : Int), .int .i64 4, .int .i64 (u : Int), .int .i64 (ww : Int), .int .i64 (ww : Int), .int .i64 (r : Int), .bool false, .int .i64 (res : Int)]) (by simp only [results, Tryd.results42]; go_simp) rfl ⟨_, _, rfl, hgw, ?_, ?_⟩
  · (repeat refine Own.setOther ?_ (by assumption) _); exact HO.out
  · (repeat refine Below.setCell ?_ (by first | assumption | exact Nat.le_refl _ | exact Nat.le_succ _) _); exact HB1.out

set_option maxRecDepth 100000 in
set_option maxHeartbeats 2000000 in
theorem rstep_4r (a b : Option Addr) (la ca cb : Nat) (pr : List Int) (up : List Nat) (k x y u v ww r res : Nat) (w : World) (st' : Int) (dn' : Bool) (res' : Int) {lo hi lo2 hi2 : Nat}
    (hp : RowN lo hi w a la up) (hhi : hi ≤ w.heap.size) (hq : Row lo2 hi2 w b la pr) (hhi2 : hi2 ≤ w.heap.size) (hu : u < la) (hv : v < la) (hw : ww < la) (hr : r < la) (hm : la ≤ 1000000) (e : el up v = v) (h : Snd k u v 4 false res st' dn' res') :
    Calls Tryd.prog 42 #[.slice a la ca, .slice b la cb, .agg #[.int .i64 (k : Int), .int .i64 (x : Int), .int .i64 (y : Int), .int .i64 4, .int .i64 (u : Int), .int .i64 (v : Int), .int .i64 (ww : Int), .int .i64 (r : Int), .bool false, .int .i64 (res : Int)]] w fun e w' =>
      ∃ g c, e = .returned (.agg #[.slice (some ⟨g, 0, none⟩) la c, .int .i64 (k : Int), .int .i64 (x : Int), .int .i64 (y : Int), .int .i64 st', .int .i64 (u : Int), .int .i64 (v : Int), .int .i64 (v : Int), .int .i64 (r : Int), .bool dn', .int .i64 res']) ∧ w.heap.size ≤ g ∧ Own w' g (up) ∧ Below w.heap.size w w' := by
  obtain ⟨bb, off, rfl, _, hbb, hc⟩ := hp.at_ hu
  have HL := Lib.hid hp.1
  have HP := Lib.hid hp
  have HQ := Lib.hid hq
  obtain ⟨i0, hi0, hz0, hz1, hz2⟩ := info_parts Tryd.info3
  have hu0 : (0 : Int) ≤ u := by omega
  have hu1 : (u : Int) < la := by omega
  have hv0 : (0 : Int) ≤ v := by omega
  have hv1 : (v : Int) < la := by omega
  have hw0 : (0 : Int) ≤ ww := by omega
  have hw1 : (ww : Int) < la := by omega
  clear hc hp hq
  have HF := Lib.hid h
  clear h
  go_enter Tryd.func42, Tryd.ntmps42
  go_wp2_with (at_builtin; refine wpList_append_own _ rfl _ _ 22 rfl (w.heap.size + 2) 3 i0 (.int .i64 0) 1 8 Tryd.underlying22 hi0 hz0 hz1 hz2 rfl (by decide) (.slice (some ⟨w.heap.size + 1 + 1, 0, none⟩) 0 0) 0 [] rfl ?c0 ⟨bb, off, none⟩ la ca (intsOf up) rfl ?c1 ?c2 ?c3 ?c4 ?c5 ?c6 ?_)
  case c0 => exact made_row _ _ _
  case c1 => simp [intsOf, HL.out]
  case c2 => exact three_news _ _ _ _ HP.out hhi
  case c3 => intro u hu; simp [intsOf] at hu; obtain ⟨n, _, rfl⟩ := hu; rfl
  case c4 => unfold maxLen; omega
  case c5 => omega
  case c6 => simp
  intro v7 w1 hown hgr hnn
  obtain ⟨g, c7, rfl, hg, ho, BT, BR, hb1⟩ := after_append (t1 := 87) (t2 := 100) (cs1 := [.int .i64 (k : Int), .int .i64 (x : Int), .int .i64 (y : Int), .int .i64 4, .int .i64 (u : Int), .int .i64 (v : Int), .int .i64 (ww : Int), .int .i64 (r : Int), .bool false, .int .i64 (res : Int)]) (cs2 := [.slice none 0 0, .int .i64 0, .int .i64 0, .int .i64 0, .int .i64 0, .int .i64 0, .int .i64 0, .int .i64 0, .int .i64 0, .bool false, .int .i64 0]) hgr hown HL.out (by omega)
  clear hgr hown hnn
  have hs1 := BR.lt
  have hg1 := ho.1
  have HB1 := Lib.hid hb1
  have HO := Lib.hid ho
  obtain ⟨_, _, _, _, _, _, _, _, _, _⟩ := BT.ten
  obtain ⟨_, _, _, _, _, _, _, _, _, _⟩ := BT.tenf
  have hgw : w.heap.size ≤ g := by omega
  have n5 : w.heap.size + 1 ≠ w.heap.size := by omega
  have n6 : w.heap.size ≠ w.heap.size + 1 := by omega
  have n1 : w.heap.size ≠ g := by omega
  have n2 : w.heap.size + 1 ≠ g := by omega
  have n3 : g ≠ w.heap.size := by omega
  have n4 : g ≠ w.heap.size + 1 := by omega
  have HBR := Lib.hid BR
  have HBT := Lib.hid BT
  clear BT BR hb1 ho
  obtain ⟨cv, fv⟩ := HO.out.2 v (by rw [HL.out]; exact hv)
  rw [e] at cv
  have hs : ((v : Int) == (v : Int)) = true := by simp
  clear e
  go_wp2_with fail
  refine (rsecond_v _ _ _ _ _ _ _ _ _ _ st' dn' res' _ HF.out).mono ?_
  rintro e w2 ⟨rfl, hb2⟩
  have hs2 := hb2.size
  simp only [World.size_setCell, size_drewN'] at hs2
  have HO2 : Hid (Own w2 g (up)) := by refine Own.below ?_ hb2 (by simp; omega); (repeat refine Own.setOther ?_ (by assumption) _); exact HO.out
  have HB2 : Hid (Below w.heap.size w w2) := by refine Below.trans ?_ (hb2.mono (by simp; omega)); (repeat refine Below.setCell ?_ (by first | assumption | exact Nat.le_refl _ | exact Nat.le_succ _) _); exact HB1.out
  have HR2 : Hid (Box w2 (w.heap.size + 1) 100 [.slice none 0 0, .int .i64 0, .int .i64 0, .int .i64 0, .int .i64 0, .int .i64 0, .int .i64 0, .int .i64 0, .int .i64 0, .bool false, .int .i64 0]) := by refine Box.below ?_ hb2; (repeat refine Box.setOther ?_ (by assumption) _); exact HBR.out
  obtain ⟨_, _, _, _, _, _, _, _, _, _, _⟩ := HR2.out.eleven
  obtain ⟨_, _, _, _, _, _, _, _, _, _, _⟩ := HR2.out.elevenf
  have hlt2 : w.heap.size + 1 < w2.heap.size := by omega
  clear hb2 hs2
  go_wp2_with fail
  refine bodyPost_ret (v := .agg #[.slice (some ⟨g, 0, none⟩) la c7, .int .i64 (k : Int), .int .i64 (x : Int), .int .i64 (y : Int), .int .i64 st', .int .i64 (u : Int), .int .i64 (v : Int), .int .i64 (v : Int), .int .i64 (r : Int), .bool dn', .int .i64 res']) (by simp only [results, Tryd.results42]; go_simp) rfl ⟨_, _, rfl, hgw, ?_, ?_⟩
  · (repeat refine Own.setOther ?_ (by assumption) _); exact HO2.out
  · (repeat refine Below.setCell ?_ (by first | assumption | exact Nat.le_refl _ | exact Nat.le_succ _) _); exact HB2.out

end Go.Proofs.YthhcchdjeeigpaaDoor
