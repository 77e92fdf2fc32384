/- Contracts of the document's Step, one way through it each. Contracts of the document's Step, one way through it each. Contracts of the document's Step, one way through it each. Contracts of the document's Step, one way through it each. -/
import Derived.Test.YtpfcpeljfgmjgaaDoorZpc
namespace Go.Proofs.YtpfcpeljfgmjgaaDoor
open Go.RowKit
set_option linter.unusedVariables false
set_option linter.unusedSimpArgs false

set_option maxRecDepth 100000 in
set_option maxHeartbeats 2000000 in
theorem rstep_dn (a b : Option Addr) (la ca cb : Nat) (pr : List Int) (up : List Nat) (k x y u v ww r res : Nat) (w : World) {lo hi lo2 hi2 : Nat}
    (hp : RowN lo hi w a la up) (hhi : hi ≤ w.heap.size) (hq : Row lo2 hi2 w b la pr) (hhi2 : hi2 ≤ w.heap.size) (hu : u < la) (hv : v < la) (hw : ww < la) (hr : r < la) (hm : la ≤ 1000000) (st : Nat) :
    Calls Tryd.prog 46 #[.slice a la ca, .slice b la cb, .agg #[.int .i64 (k : Int), .int .i64 (x : Int), .int .i64 (y : Int), .int .i64 (st : Int), .int .i64 (u : Int), .int .i64 (v : Int), .int .i64 (ww : Int), .int .i64 (r : Int), .bool true, .int .i64 (res : Int)]] w fun e w' =>
      ∃ g c, e = .returned (.agg #[.slice (some ⟨g, 0, none⟩) la c, .int .i64 (k : Int), .int .i64 (x : Int), .int .i64 (y : Int), .int .i64 (st : Int), .int .i64 (u : Int), .int .i64 (v : Int), .int .i64 (ww : Int), .int .i64 (r : Int), .bool true, .int .i64 (res : Int)]) ∧ w.heap.size ≤ g ∧ Own w' g (up) ∧ Below w.heap.size w w' := by
  obtain ⟨bb, off, rfl, _, hbb, hc⟩ := hp.at_ hu
  have HL := Lib.hid hp.1
  have HP := Lib.hid hp
  have HQ := Lib.hid hq
  obtain ⟨i0, hi0, hz0, hz1, hz2⟩ := info_parts Tryd.info3
  have hu0 : (0 : Int) ≤ u := by omega
  have hu1 : (u : Int) < la := by omega
  have hv0 : (0 : Int) ≤ v := by omega
  have hv1 : (v : Int) < la := by omega
  have hw0 : (0 : Int) ≤ ww := by omega
  have hw1 : (ww : Int) < la := by omega
  clear hc hp hq
  go_enter Tryd.func46, Tryd.ntmps46
  go_wp2_with (at_builtin; refine wpList_append_own _ rfl _ _ 22 rfl (w.heap.size + 2) 3 i0 (.int .i64 0) 1 8 Tryd.underlying22 hi0 hz0 hz1 hz2 rfl (by decide) (.slice (some ⟨w.heap.size + 1 + 1, 0, none⟩) 0 0) 0 [] rfl ?c0 ⟨bb, off, none⟩ la ca (intsOf up) rfl ?c1 ?c2 ?c3 ?c4 ?c5 ?c6 ?_)
  case c0 => exact made_row _ _ _
  case c1 => simp [intsOf, HL.out]
  case c2 => exact three_news _ _ _ _ HP.out hhi
  case c3 => intro u hu; simp [intsOf] at hu; obtain ⟨n, _, rfl⟩ := hu; rfl
  case c4 => unfold maxLen; omega
  case c5 => omega
  case c6 => simp
  intro v7 w1 hown hgr hnn
  obtain ⟨g, c7, rfl, hg, ho, BT, BR, hb1⟩ := after_append (t1 := 81) (t2 := 94) (cs1 := [.int .i64 (k : Int), .int .i64 (x : Int), .int .i64 (y : Int), .int .i64 (st : Int), .int .i64 (u : Int), .int .i64 (v : Int), .int .i64 (ww : Int), .int .i64 (r : Int), .bool true, .int .i64 (res : Int)]) (cs2 := [.slice none 0 0, .int .i64 0, .int .i64 0, .int .i64 0, .int .i64 0, .int .i64 0, .int .i64 0, .int .i64 0, .int .i64 0, .bool false, .int .i64 0]) hgr hown HL.out (by omega)
  clear hgr hown hnn
  have hs1 := BR.lt
  have hg1 := ho.1
  have HB1 := Lib.hid hb1
  have HO := Lib.hid ho
  obtain ⟨_, _, _, _, _, _, _, _, _, _⟩ := BT.ten
  obtain ⟨_, _, _, _, _, _, _, _, _, _⟩ := BT.tenf
  have hgw : w.heap.size ≤ g := by omega
  have n5 : w.heap.size + 1 ≠ w.heap.size := by omega
  have n6 : w.heap.size ≠ w.heap.size + 1 := by omega
  have n1 : w.heap.size ≠ g := by omega
  have n2 : w.heap.size + 1 ≠ g := by omega
  have n3 : g ≠ w.heap.size := by omega
  have n4 : g ≠ w.heap.size + 1 := by omega
  have HBR := Lib.hid BR
  have HBT := Lib.hid BT
  clear BT BR hb1 ho
  obtain ⟨_, _, _, _, _, _, _, _, _, _, _⟩ := HBR.out.eleven
  obtain ⟨_, _, _, _, _, _, _, _, _, _, _⟩ := HBR.out.elevenf
  go_wp2_with fail
  refine bodyPost_ret (v := .agg #[.slice (some ⟨g, 0, none⟩) la c7, .int .i64 (k : Int), .int .i64 (x : Int), .int .i64 (y : Int), .int .i64 (st : Int), .int .i64 (u : Int), .int .i64 (v : Int), .int .i64 (ww : Int), .int .i64 (r : Int), .bool true, .int .i64 (res : Int)]) (by simp only [results, Tryd.results46]; go_simp) rfl ⟨_, _, rfl, hgw, ?_, ?_⟩
  · (repeat refine Own.setOther ?_ (by assumption) _); exact HO.out
  · (repeat refine Below.setCell ?_ (by first | assumption | exact Nat.le_refl _ | exact Nat.le_succ _) _); exact HB1.out

set_option maxRecDepth 100000 in
set_option maxHeartbeats 2000000 in
theorem rstep_1r (a b : Option Addr) (la ca cb : Nat) (pr : List Int) (up : List Nat) (k x y u v ww r res : Nat) (w : World) (st' : Int) (dn' : Bool) (res' : Int) {lo hi lo2 hi2 : Nat}
    (hp : RowN lo hi w a la up) (hhi : hi ≤ w.heap.size) (hq : Row lo2 hi2 w b la pr) (hhi2 : hi2 ≤ w.heap.size) (hu : u < la) (hv : v < la) (hw : ww < la) (hr : r < la) (hm : la ≤ 1000000) (e : el up u = u) (h : Fst k u 1 false res st' dn' res') :
    Calls Tryd.prog 46 #[.slice a la ca, .slice b la cb, .agg #[.int .i64 (k : Int), .int .i64 (x : Int), .int .i64 (y : Int), .int .i64 1, .int .i64 (u : Int), .int .i64 (v : Int), .int .i64 (ww : Int), .int .i64 (r : Int), .bool false, .int .i64 (res : Int)]] w fun e w' =>
      ∃ g c, e = .returned (.agg #[.slice (some ⟨g, 0, none⟩) la c, .int .i64 (k : Int), .int .i64 (x : Int), .int .i64 (y : Int), .int .i64 st', .int .i64 (u : Int), .int .i64 (v : Int), .int .i64 (u : Int), .int .i64 (r : Int), .bool dn', .int .i64 res']) ∧ w.heap.size ≤ g ∧ Own w' g (up) ∧ Below w.heap.size w w' := by
  obtain ⟨bb, off, rfl, _, hbb, hc⟩ := hp.at_ hu
  have HL := Lib.hid hp.1
  have HP := Lib.hid hp
  have HQ := Lib.hid hq
  obtain ⟨i0, hi0, hz0, hz1, hz2⟩ := info_parts Tryd.info3
  have hu0 : (0 : Int) ≤ u := by omega
  have hu1 : (u : Int) < la := by omega
  have hv0 : (0 : Int) ≤ v := by omega
  have hv1 : (v : Int) < la := by omega
  have hw0 : (0 : Int) ≤ ww := by omega
  have hw1 : (ww : Int) < la := by omega
  clear hc hp hq
  have HF := Lib.hid h
  clear h
  go_enter Tryd.func46, Tryd.ntmps46
  go_wp2_with (at_builtin; refine wpList_append_own _ rfl _ _ 22 rfl (w.heap.size + 2) 3 i0 (.int .i64 0) 1 8 Tryd.underlying22 hi0 hz0 hz1 hz2 rfl (by decide) (.slice (some ⟨w.heap.size + 1 + 1, 0, none⟩) 0 0) 0 [] rfl ?c0 ⟨bb, off, none⟩ la ca (intsOf up) rfl ?c1 ?c2 ?c3 ?c4 ?c5 ?c6 ?_)
  case c0 => exact made_row _ _ _
  case c1 => simp [intsOf, HL.out]
  case c2 => exact three_news _ _ _ _ HP.out hhi
  case c3 => intro u hu; simp [intsOf] at hu; obtain ⟨n, _, rfl⟩ := hu; rfl
  case c4 => unfold maxLen; omega
  case c5 => omega
  case c6 => simp
  intro v7 w1 hown hgr hnn
  obtain ⟨g, c7, rfl, hg, ho, BT, BR, hb1⟩ := after_append (t1 := 81) (t2 := 94) (cs1 := [.int .i64 (k : Int), .int .i64 (x : Int), .int .i64 (y : Int), .int .i64 1, .int .i64 (u : Int), .int .i64 (v : Int), .int .i64 (ww : Int), .int .i64 (r : Int), .bool false, .int .i64 (res : Int)]) (cs2 := [.slice none 0 0, .int .i64 0, .int .i64 0, .int .i64 0, .int .i64 0, .int .i64 0, .int .i64 0, .int .i64 0, .int .i64 0, .bool false, .int .i64 0]) hgr hown HL.out (by omega)
  clear hgr hown hnn
  have hs1 := BR.lt
  have hg1 := ho.1
  have HB1 := Lib.hid hb1
  have HO := Lib.hid ho
  obtain ⟨_, _, _, _, _, _, _, _, _, _⟩ := BT.ten
  obtain ⟨_, _, _, _, _, _, _, _, _, _⟩ := BT.tenf
  have hgw : w.heap.size ≤ g := by omega
  have n5 : w.heap.size + 1 ≠ w.heap.size := by omega
  have n6 : w.heap.size ≠ w.heap.size + 1 := by omega
  have n1 : w.heap.size ≠ g := by omega
  have n2 : w.heap.size + 1 ≠ g := by omega
  have n3 : g ≠ w.heap.size := by omega
  have n4 : g ≠ w.heap.size + 1 := by omega
  have HBR := Lib.hid BR
  have HBT := Lib.hid BT
  clear BT BR hb1 ho
  obtain ⟨cu, fu⟩ := HO.out.2 u (by rw [HL.out]; exact hu)
  rw [e] at cu
  have hs : ((u : Int) == (u : Int)) = true := by simp
  clear e
  go_wp2_with fail
  refine (rfirst_v _ _ _ _ _ _ _ _ _ _ st' dn' res' _ HF.out).mono ?_
  rintro e w2 ⟨rfl, hb2⟩
  have hs2 := hb2.size
  simp only [World.size_setCell, size_drewN'] at hs2
  have HO2 : Hid (Own w2 g (up)) := by refine Own.below ?_ hb2 (by simp; omega); (repeat refine Own.setOther ?_ (by assumption) _); exact HO.out
  have HB2 : Hid (Below w.heap.size w w2) := by refine Below.trans ?_ (hb2.mono (by simp; omega)); (repeat refine Below.setCell ?_ (by first | assumption | exact Nat.le_refl _ | exact Nat.le_succ _) _); exact HB1.out
  have HR2 : Hid (Box w2 (w.heap.size + 1) 94 [.slice none 0 0, .int .i64 0, .int .i64 0, .int .i64 0, .int .i64 0, .int .i64 0, .int .i64 0, .int .i64 0, .int .i64 0, .bool false, .int .i64 0]) := by refine Box.below ?_ hb2; (repeat refine Box.setOther ?_ (by assumption) _); exact HBR.out
  obtain ⟨_, _, _, _, _, _, _, _, _, _, _⟩ := HR2.out.eleven
  obtain ⟨_, _, _, _, _, _, _, _, _, _, _⟩ := HR2.out.elevenf
  have hlt2 : w.heap.size + 1 < w2.heap.size := by omega
  clear hb2 hs2
  go_wp2_with fail
  refine bodyPost_ret (v := .agg #[.slice (some ⟨g, 0, none⟩) la c7, .int .i64 (k : Int), .int .i64 (x : Int), .int .i64 (y : Int), .int .i64 st', .int .i64 (u : Int), .int .i64 (v : Int), .int .i64 (u : Int), .int .i64 (r : Int), .bool dn', .int .i64 res']) (by simp only [results, Tryd.results46]; go_simp) rfl ⟨_, _, rfl, hgw, ?_, ?_⟩
  · (repeat refine Own.setOther ?_ (by assumption) _); exact HO2.out
  · (repeat refine Below.setCell ?_ (by first | assumption | exact Nat.le_refl _ | exact Nat.le_succ _) _); exact HB2.out

set_option maxRecDepth 100000 in
set_option maxHeartbeats 2000000 in
theorem rstep_1n (a b : Option Addr) (la ca cb : Nat) (pr : List Int) (up : List Nat) (k x y u v ww r res : Nat) (w : World) {lo hi lo2 hi2 : Nat}
    (hp : RowN lo hi w a la up) (hhi : hi ≤ w.heap.size) (hq : Row lo2 hi2 w b la pr) (hhi2 : hi2 ≤ w.heap.size) (hu : u < la) (hv : v < la) (hw : ww < la) (hr : r < la) (hm : la ≤ 1000000) (e : el up u ≠ u) :
    Calls Tryd.prog 46 #[.slice a la ca, .slice b la cb, .agg #[.int .i64 (k : Int), .int .i64 (x : Int), .int .i64 (y : Int), .int .i64 1, .int .i64 (u : Int), .int .i64 (v : Int), .int .i64 (ww : Int), .int .i64 (r : Int), .bool false, .int .i64 (res : Int)]] w fun e w' =>
      ∃ g c, e = .returned (.agg #[.slice (some ⟨g, 0, none⟩) la c, .int .i64 (k : Int), .int .i64 (x : Int), .int .i64 (y : Int), .int .i64 2, .int .i64 (u : Int), .int .i64 (v : Int), .int .i64 (el up u : Int), .int .i64 (r : Int), .bool false, .int .i64 (res : Int)]) ∧ w.heap.size ≤ g ∧ Own w' g (up) ∧ Below w.heap.size w w' := by
  obtain ⟨bb, off, rfl, _, hbb, hc⟩ := hp.at_ hu
  have HL := Lib.hid hp.1
  have HP := Lib.hid hp
  have HQ := Lib.hid hq
  obtain ⟨i0, hi0, hz0, hz1, hz2⟩ := info_parts Tryd.info3
  have hu0 : (0 : Int) ≤ u := by omega
  have hu1 : (u : Int) < la := by omega
  have hv0 : (0 : Int) ≤ v := by omega
  have hv1 : (v : Int) < la := by omega
  have hw0 : (0 : Int) ≤ ww := by omega
  have hw1 : (ww : Int) < la := by omega
  clear hc hp hq
  obtain ⟨q, hq⟩ : ∃ q, el up u = q := ⟨_, rfl⟩
  rw [hq] at e ⊢
  have HE := Lib.hid hq
  have hs : ((q : Int) == (u : Int)) = false := by simp; omega
  clear e hq
  go_enter Tryd.func46, Tryd.ntmps46
  go_wp2_with (at_builtin; refine wpList_append_own _ rfl _ _ 22 rfl (w.heap.size + 2) 3 i0 (.int .i64 0) 1 8 Tryd.underlying22 hi0 hz0 hz1 hz2 rfl (by decide) (.slice (some ⟨w.heap.size + 1 + 1, 0, none⟩) 0 0) 0 [] rfl ?c0 ⟨bb, off, none⟩ la ca (intsOf up) rfl ?c1 ?c2 ?c3 ?c4 ?c5 ?c6 ?_)
  case c0 => exact made_row _ _ _
  case c1 => simp [intsOf, HL.out]
  case c2 => exact three_news _ _ _ _ HP.out hhi
  case c3 => intro u hu; simp [intsOf] at hu; obtain ⟨n, _, rfl⟩ := hu; rfl
  case c4 => unfold maxLen; omega
  case c5 => omega
  case c6 => simp
  intro v7 w1 hown hgr hnn
  obtain ⟨g, c7, rfl, hg, ho, BT, BR, hb1⟩ := after_append (t1 := 81) (t2 := 94) (cs1 := [.int .i64 (k : Int), .int .i64 (x : Int), .int .i64 (y : Int), .int .i64 1, .int .i64 (u : Int), .int .i64 (v : Int), .int .i64 (ww : Int), .int .i64 (r : Int), .bool false, .int .i64 (res : Int)]) (cs2 := [.slice none 0 0, .int .i64 0, .int .i64 0, .int .i64 0, .int .i64 0, .int .i64 0, .int .i64 0, .int .i64 0, .int .i64 0, .bool false, .int .i64 0]) hgr hown HL.out (by omega)
  clear hgr hown hnn
  have hs1 := BR.lt
  have hg1 := ho.1
  have HB1 := Lib.hid hb1
  have HO := Lib.hid ho
  obtain ⟨_, _, _, _, _, _, _, _, _, _⟩ := BT.ten
  obtain ⟨_, _, _, _, _, _, _, _, _, _⟩ := BT.tenf
  have hgw : w.heap.size ≤ g := by omega
  have n5 : w.heap.size + 1 ≠ w.heap.size := by omega
  have n6 : w.heap.size ≠ w.heap.size + 1 := by omega
  have n1 : w.heap.size ≠ g := by omega
  have n2 : w.heap.size + 1 ≠ g := by omega
  have n3 : g ≠ w.heap.size := by omega
  have n4 : g ≠ w.heap.size + 1 := by omega
  have HBR := Lib.hid BR
  have HBT := Lib.hid BT
  clear BT BR hb1 ho
  obtain ⟨cu, fu⟩ := HO.out.2 u (by rw [HL.out]; exact hu)
  rw [HE.out] at cu
  obtain ⟨_, _, _, _, _, _, _, _, _, _, _⟩ := HBR.out.eleven
  obtain ⟨_, _, _, _, _, _, _, _, _, _, _⟩ := HBR.out.elevenf
  go_wp2_with fail
  refine bodyPost_ret (v := .agg #[.slice (some ⟨g, 0, none⟩) la c7, .int .i64 (k : Int), .int .i64 (x : Int), .int .i64 (y : Int), .int .i64 2, .int .i64 (u : Int), .int .i64 (v : Int), .int .i64 (q : Int), .int .i64 (r : Int), .bool false, .int .i64 (res : Int)]) (by simp only [results, Tryd.results46]; go_simp) rfl ⟨_, _, rfl, hgw, ?_, ?_⟩
  · (repeat refine Own.setOther ?_ (by assumption) _); exact HO.out
  · (repeat refine Below.setCell ?_ (by first | assumption | exact Nat.le_refl _ | exact Nat.le_succ _) _); exact HB1.out

set_option maxRecDepth 100000 in
set_option maxHeartbeats 2000000 in
theorem rstep_2r (a b : Option Addr) (la ca cb : Nat) (pr : List Int) (up : List Nat) (k x y u v ww r res : Nat) (w : World) (st' : Int) (dn' : Bool) (res' : Int) {lo hi lo2 hi2 : Nat}
    (hp : RowN lo hi w a la up) (hhi : hi ≤ w.heap.size) (hq : Row lo2 hi2 w b la pr) (hhi2 : hi2 ≤ w.heap.size) (hu : u < la) (hv : v < la) (hw : ww < la) (hr : r < la) (hm : la ≤ 1000000) (e : el up ww = ww) (h : Fst k ww 2 false res st' dn' res') :
    Calls Tryd.prog 46 #[.slice a la ca, .slice b la cb, .agg #[.int .i64 (k : Int), .int .i64 (x : Int), .int .i64 (y : Int), .int .i64 2, .int .i64 (u : Int), .int .i64 (v : Int), .int .i64 (ww : Int), .int .i64 (r : Int), .bool false, .int .i64 (res : Int)]] w fun e w' =>
      ∃ g c, e = .returned (.agg #[.slice (some ⟨g, 0, none⟩) la c, .int .i64 (k : Int), .int .i64 (x : Int), .int .i64 (y : Int), .int .i64 st', .int .i64 (ww : Int), .int .i64 (v : Int), .int .i64 (ww : Int), .int .i64 (ww : Int), .bool dn', .int .i64 res']) ∧ w.heap.size ≤ g ∧ Own w' g (up) ∧ Below w.heap.size w w' := by
  obtain ⟨bb, off, rfl, _, hbb, hc⟩ := hp.at_ hu
  have HL := Lib.hid hp.1
  have HP := Lib.hid hp
  have HQ := Lib.hid hq
  obtain ⟨i0, hi0, hz0, hz1, hz2⟩ := info_parts Tryd.info3
  have hu0 : (0 : Int) ≤ u := by omega
  have hu1 : (u : Int) < la := by omega
  have hv0 : (0 : Int) ≤ v := by omega
  have hv1 : (v : Int) < la := by omega
  have hw0 : (0 : Int) ≤ ww := by omega
  have hw1 : (ww : Int) < la := by omega
  clear hc hp hq
  have HF := Lib.hid h
  clear h
  go_enter Tryd.func46, Tryd.ntmps46
  go_wp2_with (at_builtin; refine wpList_append_own _ rfl _ _ 22 rfl (w.heap.size + 2) 3 i0 (.int .i64 0) 1 8 Tryd.underlying22 hi0 hz0 hz1 hz2 rfl (by decide) (.slice (some ⟨w.heap.size + 1 + 1, 0, none⟩) 0 0) 0 [] rfl ?c0 ⟨bb, off, none⟩ la ca (intsOf up) rfl ?c1 ?c2 ?c3 ?c4 ?c5 ?c6 ?_)
  case c0 => exact made_row _ _ _
  case c1 => simp [intsOf, HL.out]
  case c2 => exact three_news _ _ _ _ HP.out hhi
  case c3 => intro u hu; simp [intsOf] at hu; obtain ⟨n, _, rfl⟩ := hu; rfl
  case c4 => unfold maxLen; omega
  case c5 => omega
  case c6 => simp
  intro v7 w1 hown hgr hnn
  obtain ⟨g, c7, rfl, hg, ho, BT, BR, hb1⟩ := after_append (t1 := 81) (t2 := 94) (cs1 := [.int .i64 (k : Int), .int .i64 (x : Int), .int .i64 (y : Int), .int .i64 2, .int .i64 (u : Int), .int .i64 (v : Int), .int .i64 (ww : Int), .int .i64 (r : Int), .bool false, .int .i64 (res : Int)]) (cs2 := [.slice none 0 0, .int .i64 0, .int .i64 0, .int .i64 0, .int .i64 0, .int .i64 0, .int .i64 0, .int .i64 0, .int .i64 0, .bool false, .int .i64 0]) hgr hown HL.out (by omega)
  clear hgr hown hnn
  have hs1 := BR.lt
  have hg1 := ho.1
  have HB1 := Lib.hid hb1
  have HO := Lib.hid ho
  obtain ⟨_, _, _, _, _, _, _, _, _, _⟩ := BT.ten
  obtain ⟨_, _, _, _, _, _, _, _, _, _⟩ := BT.tenf
  have hgw : w.heap.size ≤ g := by omega
  have n5 : w.heap.size + 1 ≠ w.heap.size := by omega
  have n6 : w.heap.size ≠ w.heap.size + 1 := by omega
  have n1 : w.heap.size ≠ g := by omega
  have n2 : w.heap.size + 1 ≠ g := by omega
  have n3 : g ≠ w.heap.size := by omega
  have n4 : g ≠ w.heap.size + 1 := by omega
  have HBR := Lib.hid BR
  have HBT := Lib.hid BT
  clear BT BR hb1 ho
  obtain ⟨cww, fww⟩ := HO.out.2 ww (by rw [HL.out]; exact hw)
  rw [e] at cww
  have hs : ((ww : Int) == (ww : Int)) = true := by simp
  clear e
  go_wp2_with fail
  refine (rfirst_v _ _ _ _ _ _ _ _ _ _ st' dn' res' _ HF.out).mono ?_
  rintro e w2 ⟨rfl, hb2⟩
  have hs2 := hb2.size
  simp only [World.size_setCell, size_drewN'] at hs2
  have HO2 : Hid (Own w2 g (up)) := by refine Own.below ?_ hb2 (by simp; omega); (repeat refine Own.setOther ?_ (by assumption) _); exact HO.out
  have HB2 : Hid (Below w.heap.size w w2) := by refine Below.trans ?_ (hb2.mono (by simp; omega)); (repeat refine Below.setCell ?_ (by first | assumption | exact Nat.le_refl _ | exact Nat.le_succ _) _); exact HB1.out
  have HR2 : Hid (Box w2 (w.heap.size + 1) 94 [.slice none 0 0, .int .i64 0, .int .i64 0, .int .i64 0, .int .i64 0, .int .i64 0, .int .i64 0, .int .i64 0, .int .i64 0, .bool false, .int .i64 0]) := by refine Box.below ?_ hb2; (repeat refine Box.setOther ?_ (by assumption) _); exact HBR.out
  obtain ⟨_, _, _, _, _, _, _, _, _, _, _⟩ := HR2.out.eleven
  obtain ⟨_, _, _, _, _, _, _, _, _, _, _⟩ := HR2.out.elevenf
  have hlt2 : w.heap.size + 1 < w2.heap.size := by omega
  clear hb2 hs2
  go_wp2_with fail
  refine bodyPost_ret (v := .agg #[.slice (some ⟨g, 0, none⟩) la c7, .int .i64 (k : Int), .int .i64 (x : Int), .int .i64 (y : Int), .int .i64 st', .int .i64 (ww : Int), .int .i64 (v : Int), .int .i64 (ww : Int), .int .i64 (ww : Int), .bool dn', .int .i64 res']) (by simp only [results, Tryd.results46]; go_simp) rfl ⟨_, _, rfl, hgw, ?_, ?_⟩
  · (repeat refine Own.setOther ?_ (by assumption) _); exact HO2.out
  · (repeat refine Below.setCell ?_ (by first | assumption | exact Nat.le_refl _ | exact Nat.le_succ _) _); exact HB2.out

set_option maxRecDepth 100000 in
set_option maxHeartbeats 2000000 in
theorem rstep_2n (a b : Option Addr) (la ca cb : Nat) (pr : List Int) (up : List Nat) (k x y u v ww r res : Nat) (w : World) {lo hi lo2 hi2 : Nat}
    (hp : RowN lo hi w a la up) (hhi : hi ≤ w.heap.size) (hq : Row lo2 hi2 w b la pr) (hhi2 : hi2 ≤ w.heap.size) (hu : u < la) (hv : v < la) (hw : ww < la) (hr : r < la) (hm : la ≤ 1000000) (e : el up ww ≠ ww) :
    Calls Tryd.prog 46 #[.slice a la ca, .slice b la cb, .agg #[.int .i64 (k : Int), .int .i64 (x : Int), .int .i64 (y : Int), .int .i64 2, .int .i64 (u : Int), .int .i64 (v : Int), .int .i64 (ww : Int), .int .i64 (r : Int), .bool false, .int .i64 (res : Int)]] w fun e w' =>
      ∃ g c, e = .returned (.agg #[.slice (some ⟨g, 0, none⟩) la c, .int .i64 (k : Int), .int .i64 (x : Int), .int .i64 (y : Int), .int .i64 3, .int .i64 (u : Int), .int .i64 (v : Int), .int .i64 (ww : Int), .int .i64 (el up ww : Int), .bool false, .int .i64 (res : Int)]) ∧ w.heap.size ≤ g ∧ Own w' g (up) ∧ Below w.heap.size w w' := by
  obtain ⟨bb, off, rfl, _, hbb, hc⟩ := hp.at_ hu
  have HL := Lib.hid hp.1
  have HP := Lib.hid hp
  have HQ := Lib.hid hq
  obtain ⟨i0, hi0, hz0, hz1, hz2⟩ := info_parts Tryd.info3
  have hu0 : (0 : Int) ≤ u := by omega
  have hu1 : (u : Int) < la := by omega
  have hv0 : (0 : Int) ≤ v := by omega
  have hv1 : (v : Int) < la := by omega
  have hw0 : (0 : Int) ≤ ww := by omega
  have hw1 : (ww : Int) < la := by omega
  clear hc hp hq
  obtain ⟨q, hq⟩ : ∃ q, el up ww = q := ⟨_, rfl⟩
  rw [hq] at e ⊢
  have HE := Lib.hid hq
  have hs : ((q : Int) == (ww : Int)) = false := by simp; omega
  clear e hq
  go_enter Tryd.func46, Tryd.ntmps46
  go_wp2_with (at_builtin; refine wpList_append_own _ rfl _ _ 22 rfl (w.heap.size + 2) 3 i0 (.int .i64 0) 1 8 Tryd.underlying22 hi0 hz0 hz1 hz2 rfl (by decide) (.slice (some ⟨w.heap.size + 1 + 1, 0, none⟩) 0 0) 0 [] rfl ?c0 ⟨bb, off, none⟩ la ca (intsOf up) rfl ?c1 ?c2 ?c3 ?c4 ?c5 ?c6 ?_)
  case c0 => exact made_row _ _ _
  case c1 => simp [intsOf, HL.out]
  case c2 => exact three_news _ _ _ _ HP.out hhi
  case c3 => intro u hu; simp [intsOf] at hu; obtain ⟨n, _, rfl⟩ := hu; rfl
  case c4 => unfold maxLen; omega
  case c5 => omega
  case c6 => simp
  intro v7 w1 hown hgr hnn
  obtain ⟨g, c7, rfl, hg, ho, BT, BR, hb1⟩ := after_append (t1 := 81) (t2 := 94) (cs1 := [.int .i64 (k : Int), .int .i64 (x : Int), .int .i64 (y : Int), .int .i64 2, .int .i64 (u : Int), .int .i64 (v : Int), .int .i64 (ww : Int), .int .i64 (r : Int), .bool false, .int .i64 (res : Int)]) (cs2 := [.slice none 0 0, .int .i64 0, .int .i64 0, .int .i64 0, .int .i64 0, .int .i64 0, .int .i64 0, .int .i64 0, .int .i64 0, .bool false, .int .i64 0]) hgr hown HL.out (by omega)
  clear hgr hown hnn
  have hs1 := BR.lt
  have hg1 := ho.1
  have HB1 := Lib.hid hb1
  have HO := Lib.hid ho
  obtain ⟨_, _, _, _, _, _, _, _, _, _⟩ := BT.ten
  obtain ⟨_, _, _, _, _, _, _, _, _, _⟩ := BT.tenf
  have hgw : w.heap.size ≤ g := by omega
  have n5 : w.heap.size + 1 ≠ w.heap.size := by omega
  have n6 : w.heap.size ≠ w.heap.size + 1 := by omega
  have n1 : w.heap.size ≠ g := by omega
  have n2 : w.heap.size + 1 ≠ g := by omega
  have n3 : g ≠ w.heap.size := by omega
  have n4 : g ≠ w.heap.size + 1 := by omega
  have HBR := Lib.hid BR
  have HBT := Lib.hid BT
  clear BT BR hb1 ho
  obtain ⟨cww, fww⟩ := HO.out.2 ww (by rw [HL.out]; exact hw)
  rw [HE.out] at cww
  obtain ⟨_, _, _, _, _, _, _, _, _, _, _⟩ := HBR.out.eleven
  obtain ⟨_, _, _, _, _, _, _, _, _, _, _⟩ := HBR.out.elevenf
  go_wp2_with fail
  refine bodyPost_ret (v := .agg #[.slice (some ⟨g, 0, none⟩) la c7, .int .i64 (k : Int), .int .i64 (x : Int), .int .i64 (y : Int), .int .i64 3, .int .i64 (u : Int), .int .i64 (v : Int), .int .i64 (ww : Int), .int .i64 (q : Int), .bool false, .int .i64 (res : Int)]) (by simp only [results, Tryd.results46]; go_simp) rfl ⟨_, _, rfl, hgw, ?_, ?_⟩
  · (repeat refine Own.setOther ?_ (by assumption) _); exact HO.out
  · (repeat refine Below.setCell ?_ (by first | assumption | exact Nat.le_refl _ | exact Nat.le_succ _) _); exact HB1.out

end Go.Proofs.YtpfcpeljfgmjgaaDoor

namespace Go.Proofs.YtpfcpeljfgmjgaaDoor
open Go.RowKit
set_option linter.unusedVariables false
set_option linter.unusedSimpArgs false

set_option maxRecDepth 100000 in
set_option maxHeartbeats 2000000 in
theorem rstep_3y (a b : Option Addr) (la ca cb : Nat) (pr : List Int) (up : List Nat) (k x y u v ww r res : Nat) (w : World) {lo hi lo2 hi2 : Nat}
    (hp : RowN lo hi w a la up) (hhi : hi ≤ w.heap.size) (hq : Row lo2 hi2 w b la pr) (hhi2 : hi2 ≤ w.heap.size) (hu : u < la) (hv : v < la) (hw : ww < la) (hr : r < la) (hm : la ≤ 1000000) (e : el up u = ww) :
    Calls Tryd.prog 46 #[.slice a la ca, .slice b la cb, .agg #[.int .i64 (k : Int), .int .i64 (x : Int), .int .i64 (y : Int), .int .i64 3, .int .i64 (u : Int), .int .i64 (v : Int), .int .i64 (ww : Int), .int .i64 (r : Int), .bool false, .int .i64 (res : Int)]] w fun e w' =>
      ∃ g c, e = .returned (.agg #[.slice (some ⟨g, 0, none⟩) la c, .int .i64 (k : Int), .int .i64 (x : Int), .int .i64 (y : Int), .int .i64 1, .int .i64 (ww : Int), .int .i64 (v : Int), .int .i64 (ww : Int), .int .i64 (r : Int), .bool false, .int .i64 (res : Int)]) ∧ w.heap.size ≤ g ∧ Own w' g (up.set u r) ∧ Below w.heap.size w w' := by
  obtain ⟨bb, off, rfl, _, hbb, hc⟩ := hp.at_ hu
  have HL := Lib.hid hp.1
  have HP := Lib.hid hp
  have HQ := Lib.hid hq
  obtain ⟨i0, hi0, hz0, hz1, hz2⟩ := info_parts Tryd.info3
  have hu0 : (0 : Int) ≤ u := by omega
  have hu1 : (u : Int) < la := by omega
  have hv0 : (0 : Int) ≤ v := by omega
  have hv1 : (v : Int) < la := by omega
  have hw0 : (0 : Int) ≤ ww := by omega
  have hw1 : (ww : Int) < la := by omega
  clear hc hp hq
  have HE := Lib.hid e
  clear e
  go_enter Tryd.func46, Tryd.ntmps46
  go_wp2_with (at_builtin; refine wpList_append_own _ rfl _ _ 22 rfl (w.heap.size + 2) 3 i0 (.int .i64 0) 1 8 Tryd.underlying22 hi0 hz0 hz1 hz2 rfl (by decide) (.slice (some ⟨w.heap.size + 1 + 1, 0, none⟩) 0 0) 0 [] rfl ?c0 ⟨bb, off, none⟩ la ca (intsOf up) rfl ?c1 ?c2 ?c3 ?c4 ?c5 ?c6 ?_)
  case c0 => exact made_row _ _ _
  case c1 => simp [intsOf, HL.out]
  case c2 => exact three_news _ _ _ _ HP.out hhi
  case c3 => intro u hu; simp [intsOf] at hu; obtain ⟨n, _, rfl⟩ := hu; rfl
  case c4 => unfold maxLen; omega
  case c5 => omega
  case c6 => simp
  intro v7 w1 hown hgr hnn
  obtain ⟨g, c7, rfl, hg, ho, BT, BR, hb1⟩ := after_append (t1 := 81) (t2 := 94) (cs1 := [.int .i64 (k : Int), .int .i64 (x : Int), .int .i64 (y : Int), .int .i64 3, .int .i64 (u : Int), .int .i64 (v : Int), .int .i64 (ww : Int), .int .i64 (r : Int), .bool false, .int .i64 (res : Int)]) (cs2 := [.slice none 0 0, .int .i64 0, .int .i64 0, .int .i64 0, .int .i64 0, .int .i64 0, .int .i64 0, .int .i64 0, .int .i64 0, .bool false, .int .i64 0]) hgr hown HL.out (by omega)
  clear hgr hown hnn
  have hs1 := BR.lt
  have hg1 := ho.1
  have HB1 := Lib.hid hb1
  have HO := Lib.hid ho
  obtain ⟨_, _, _, _, _, _, _, _, _, _⟩ := BT.ten
  obtain ⟨_, _, _, _, _, _, _, _, _, _⟩ := BT.tenf
  have hgw : w.heap.size ≤ g := by omega
  have n5 : w.heap.size + 1 ≠ w.heap.size := by omega
  have n6 : w.heap.size ≠ w.heap.size + 1 := by omega
  have n1 : w.heap.size ≠ g := by omega
  have n2 : w.heap.size + 1 ≠ g := by omega
  have n3 : g ≠ w.heap.size := by omega
  have n4 : g ≠ w.heap.size + 1 := by omega
  have HBR := Lib.hid BR
  have HBT := Lib.hid BT
  clear BT BR hb1 ho
  obtain ⟨_, _, _, _, _, _, _, _, _, _, _⟩ := HBR.out.eleven
  obtain ⟨_, _, _, _, _, _, _, _, _, _, _⟩ := HBR.out.elevenf
  go_wp2_with fail
  refine (swap_yes g la c7 up u ww r _ HO.out HL.out hu HE.out hm).mono ?_
  rintro e w' ⟨rfl, rfl⟩
  have hg2 : g < (w1.setCell ⟨g, u, none⟩ (.int .i64 (r : Int))).heap.size := by simpa using hg1
  go_wp2_with fail
  refine bodyPost_ret (v := .agg #[.slice (some ⟨g, 0, none⟩) la c7, .int .i64 (k : Int), .int .i64 (x : Int), .int .i64 (y : Int), .int .i64 1, .int .i64 (ww : Int), .int .i64 (v : Int), .int .i64 (ww : Int), .int .i64 (r : Int), .bool false, .int .i64 (res : Int)]) (by simp only [results, Tryd.results46]; go_simp) rfl ⟨_, _, rfl, hgw, ?_, ?_⟩
  · (repeat refine Own.setOther ?_ (by assumption) _); exact HO.out.put (by rw [HL.out]; exact hu)
  · (repeat refine Below.setCell ?_ (by first | assumption | exact Nat.le_refl _ | exact Nat.le_succ _) _); exact HB1.out

set_option maxRecDepth 100000 in
set_option maxHeartbeats 2000000 in
theorem rstep_3n (a b : Option Addr) (la ca cb : Nat) (pr : List Int) (up : List Nat) (k x y u v ww r res : Nat) (w : World) {lo hi lo2 hi2 : Nat}
    (hp : RowN lo hi w a la up) (hhi : hi ≤ w.heap.size) (hq : Row lo2 hi2 w b la pr) (hhi2 : hi2 ≤ w.heap.size) (hu : u < la) (hv : v < la) (hw : ww < la) (hr : r < la) (hm : la ≤ 1000000) (e : el up u ≠ ww) :
    Calls Tryd.prog 46 #[.slice a la ca, .slice b la cb, .agg #[.int .i64 (k : Int), .int .i64 (x : Int), .int .i64 (y : Int), .int .i64 3, .int .i64 (u : Int), .int .i64 (v : Int), .int .i64 (ww : Int), .int .i64 (r : Int), .bool false, .int .i64 (res : Int)]] w fun e w' =>
      ∃ g c, e = .returned (.agg #[.slice (some ⟨g, 0, none⟩) la c, .int .i64 (k : Int), .int .i64 (x : Int), .int .i64 (y : Int), .int .i64 1, .int .i64 (ww : Int), .int .i64 (v : Int), .int .i64 (ww : Int), .int .i64 (r : Int), .bool false, .int .i64 (res : Int)]) ∧ w.heap.size ≤ g ∧ Own w' g (up) ∧ Below w.heap.size w w' := by
  obtain ⟨bb, off, rfl, _, hbb, hc⟩ := hp.at_ hu
  have HL := Lib.hid hp.1
  have HP := Lib.hid hp
  have HQ := Lib.hid hq
  obtain ⟨i0, hi0, hz0, hz1, hz2⟩ := info_parts Tryd.info3
  have hu0 : (0 : Int) ≤ u := by omega
  have hu1 : (u : Int) < la := by omega
  have hv0 : (0 : Int) ≤ v := by omega
  have hv1 : (v : Int) < la := by omega
  have hw0 : (0 : Int) ≤ ww := by omega
  have hw1 : (ww : Int) < la := by omega
  clear hc hp hq
  have HE := Lib.hid e
  clear e
  go_enter Tryd.func46, Tryd.ntmps46
  go_wp2_with (at_builtin; refine wpList_append_own _ rfl _ _ 22 rfl (w.heap.size + 2) 3 i0 (.int .i64 0) 1 8 Tryd.underlying22 hi0 hz0 hz1 hz2 rfl (by decide) (.slice (some ⟨w.heap.size + 1 + 1, 0, none⟩) 0 0) 0 [] rfl ?c0 ⟨bb, off, none⟩ la ca (intsOf up) rfl ?c1 ?c2 ?c3 ?c4 ?c5 ?c6 ?_)
  case c0 => exact made_row _ _ _
  case c1 => simp [intsOf, HL.out]
  case c2 => exact three_news _ _ _ _ HP.out hhi
  case c3 => intro u hu; simp [intsOf] at hu; obtain ⟨n, _, rfl⟩ := hu; rfl
  case c4 => unfold maxLen; omega
  case c5 => omega
  case c6 => simp
  intro v7 w1 hown hgr hnn
  obtain ⟨g, c7, rfl, hg, ho, BT, BR, hb1⟩ := after_append (t1 := 81) (t2 := 94) (cs1 := [.int .i64 (k : Int), .int .i64 (x : Int), .int .i64 (y : Int), .int .i64 3, .int .i64 (u : Int), .int .i64 (v : Int), .int .i64 (ww : Int), .int .i64 (r : Int), .bool false, .int .i64 (res : Int)]) (cs2 := [.slice none 0 0, .int .i64 0, .int .i64 0, .int .i64 0, .int .i64 0, .int .i64 0, .int .i64 0, .int .i64 0, .int .i64 0, .bool false, .int .i64 0]) hgr hown HL.out (by omega)
  clear hgr hown hnn
  have hs1 := BR.lt
  have hg1 := ho.1
  have HB1 := Lib.hid hb1
  have HO := Lib.hid ho
  obtain ⟨_, _, _, _, _, _, _, _, _, _⟩ := BT.ten
  obtain ⟨_, _, _, _, _, _, _, _, _, _⟩ := BT.tenf
  have hgw : w.heap.size ≤ g := by omega
  have n5 : w.heap.size + 1 ≠ w.heap.size := by omega
  have n6 : w.heap.size ≠ w.heap.size + 1 := by omega
  have n1 : w.heap.size ≠ g := by omega
  have n2 : w.heap.size + 1 ≠ g := by omega
  have n3 : g ≠ w.heap.size := by omega
  have n4 : g ≠ w.heap.size + 1 := by omega
  have HBR := Lib.hid BR
  have HBT := Lib.hid BT
  clear BT BR hb1 ho
  obtain ⟨_, _, _, _, _, _, _, _, _, _, _⟩ := HBR.out.eleven
  obtain ⟨_, _, _, _, _, _, _, _, _, _, _⟩ := HBR.out.elevenf
  go_wp2_with fail
  refine (swap_no g la c7 up u ww r _ HO.out HL.out hu HE.out hm).mono ?_
  rintro e w' ⟨rfl, rfl⟩
  go_wp2_with fail
  refine bodyPost_ret (v := .agg #[.slice (some ⟨g, 0, none⟩) la c7, .int .i64 (k : Int), .int .i64 (x : Int), .int .i64 (y : Int), .int .i64 1, .int .i64 (ww : Int), .int .i64 (v : Int), .int .i64 (ww : Int), .int .i64 (r : Int), .bool false, .int .i64 (res : Int)]) (by simp only [results, Tryd.results46]; go_simp) rfl ⟨_, _, rfl, hgw, ?_, ?_⟩
  · (repeat refine Own.setOther ?_ (by assumption) _); exact HO.out
  · (repeat refine Below.setCell ?_ (by first | assumption | exact Nat.le_refl _ | exact Nat.le_succ _) _); exact HB1.out

set_option maxRecDepth 100000 in
set_option maxHeartbeats 2000000 in
theorem rstep_6y (a b : Option Addr) (la ca cb : Nat) (pr : List Int) (up : List Nat) (k x y u v ww r res : Nat) (w : World) {lo hi lo2 hi2 : Nat}
    (hp : RowN lo hi w a la up) (hhi : hi ≤ w.heap.size) (hq : Row lo2 hi2 w b la pr) (hhi2 : hi2 ≤ w.heap.size) (hu : u < la) (hv : v < la) (hw : ww < la) (hr : r < la) (hm : la ≤ 1000000) (e : el up v = ww) :
    Calls Tryd.prog 46 #[.slice a la ca, .slice b la cb, .agg #[.int .i64 (k : Int), .int .i64 (x : Int), .int .i64 (y : Int), .int .i64 6, .int .i64 (u : Int), .int .i64 (v : Int), .int .i64 (ww : Int), .int .i64 (r : Int), .bool false, .int .i64 (res : Int)]] w fun e w' =>
      ∃ g c, e = .returned (.agg #[.slice (some ⟨g, 0, none⟩) la c, .int .i64 (k : Int), .int .i64 (x : Int), .int .i64 (y : Int), .int .i64 4, .int .i64 (u : Int), .int .i64 (ww : Int), .int .i64 (ww : Int), .int .i64 (r : Int), .bool false, .int .i64 (res : Int)]) ∧ w.heap.size ≤ g ∧ Own w' g (up.set v r) ∧ Below w.heap.size w w' := by
  obtain ⟨bb, off, rfl, _, hbb, hc⟩ := hp.at_ hu
  have HL := Lib.hid hp.1
  have HP := Lib.hid hp
  have HQ := Lib.hid hq
  obtain ⟨i0, hi0, hz0, hz1, hz2⟩ := info_parts Tryd.info3
  have hu0 : (0 : Int) ≤ u := by omega
  have hu1 : (u : Int) < la := by omega
  have hv0 : (0 : Int) ≤ v := by omega
  have hv1 : (v : Int) < la := by omega
  have hw0 : (0 : Int) ≤ ww := by omega
  have hw1 : (ww : Int) < la := by omega
  clear hc hp hq
  have HE := Lib.hid e
  clear e
  go_enter Tryd.func46, Tryd.ntmps46
  go_wp2_with (at_builtin; refine wpList_append_own _ rfl _ _ 22 rfl (w.heap.size + 2) 3 i0 (.int .i64 0) 1 8 Tryd.underlying22 hi0 hz0 hz1 hz2 rfl (by decide) (.slice (some ⟨w.heap.size + 1 + 1, 0, none⟩) 0 0) 0 [] rfl ?c0 ⟨bb, off, none⟩ la ca (intsOf up) rfl ?c1 ?c2 ?c3 ?c4 ?c5 ?c6 ?_)
  case c0 => exact made_row _ _ _
  case c1 => simp [intsOf, HL.out]
  case c2 => exact three_news _ _ _ _ HP.out hhi
  case c3 => intro u hu; simp [intsOf] at hu; obtain ⟨n, _, rfl⟩ := hu; rfl
  case c4 => unfold maxLen; omega
  case c5 => omega
  case c6 => simp
  intro v7 w1 hown hgr hnn
  obtain ⟨g, c7, rfl, hg, ho, BT, BR, hb1⟩ := after_append (t1 := 81) (t2 := 94) (cs1 := [.int .i64 (k : Int), .int .i64 (x : Int), .int .i64 (y : Int), .int .i64 6, .int .i64 (u : Int), .int .i64 (v : Int), .int .i64 (ww : Int), .int .i64 (r : Int), .bool false, .int .i64 (res : Int)]) (cs2 := [.slice none 0 0, .int .i64 0, .int .i64 0, .int .i64 0, .int .i64 0, .int .i64 0, .int .i64 0, .int .i64 0, .int .i64 0, .bool false, .int .i64 0]) hgr hown HL.out (by omega)
  clear hgr hown hnn
  have hs1 := BR.lt
  have hg1 := ho.1
  have HB1 := Lib.hid hb1
  have HO := Lib.hid ho
  obtain ⟨_, _, _, _, _, _, _, _, _, _⟩ := BT.ten
  obtain ⟨_, _, _, _, _, _, _, _, _, _⟩ := BT.tenf
  have hgw : w.heap.size ≤ g := by omega
  have n5 : w.heap.size + 1 ≠ w.heap.size := by omega
  have n6 : w.heap.size ≠ w.heap.size + 1 := by omega
  have n1 : w.heap.size ≠ g := by omega
  have n2 : w.heap.size + 1 ≠ g := by omega
  have n3 : g ≠ w.heap.size := by omega
  have n4 : g ≠ w.heap.size + 1 := by omega
  have HBR := Lib.hid BR
  have HBT := Lib.hid BT
  clear BT BR hb1 ho
  obtain ⟨_, _, _, _, _, _, _, _, _, _, _⟩ := HBR.out.eleven
  obtain ⟨_, _, _, _, _, _, _, _, _, _, _⟩ := HBR.out.elevenf
  go_wp2_with fail
  refine (swap_yes g la c7 up v ww r _ HO.out HL.out hv HE.out hm).mono ?_
  rintro e w' ⟨rfl, rfl⟩
  have hg2 : g < (w1.setCell ⟨g, v, none⟩ (.int .i64 (r : Int))).heap.size := by simpa using hg1
  go_wp2_with fail
  refine bodyPost_ret (v := .agg #[.slice (some ⟨g, 0, none⟩) la c7, .int .i64 (k : Int), .int .i64 (x : Int), .int .i64 (y : Int), .int .i64 4, .int .i64 (u : Int), .int .i64 (ww : Int), .int .i64 (ww : Int), .int .i64 (r : Int), .bool false, .int .i64 (res : Int)]) (by simp only [results, Tryd.results46]; go_simp) rfl ⟨_, _, rfl, hgw, ?_, ?_⟩
  · (repeat refine Own.setOther ?_ (by assumption) _); exact HO.out.put (by rw [HL.out]; exact hv)
  · (repeat refine Below.setCell ?_ (by first | assumption | exact Nat.le_refl _ | exact Nat.le_succ _) _); exact HB1.out

set_option maxRecDepth 100000 in
set_option maxHeartbeats 2000000 in
theorem rstep_6n (a b : Option Addr) (la ca cb : Nat) (pr : List Int) (up : List Nat) (k x y u v ww r res : Nat) (w : World) {lo hi lo2 hi2 : Nat}
    (hp : RowN lo hi w a la up) (hhi : hi ≤ w.heap.size) (hq : Row lo2 hi2 w b la pr) (hhi2 : hi2 ≤ w.heap.size) (hu : u < la) (hv : v < la) (hw : ww < la) (hr : r < la) (hm : la ≤ 1000000) (e : el up v ≠ ww) :
    Calls Tryd.prog 46 #[.slice a la ca, .slice b la cb, .agg #[.int .i64 (k : Int), .int .i64 (x : Int), .int .i64 (y : Int), .int .i64 6, .int .i64 (u : Int), .int .i64 (v : Int), .int .i64 (ww : Int), .int .i64 (r : Int), .bool false, .int .i64 (res : Int)]] w fun e w' =>
      ∃ g c, e = .returned (.agg #[.slice (some ⟨g, 0, none⟩) la c, .int .i64 (k : Int), .int .i64 (x : Int), .int .i64 (y : Int), .int .i64 4, .int .i64 (u : Int), .int .i64 (ww : Int), .int .i64 (ww : Int), .int .i64 (r : Int), .bool false, .int .i64 (res : Int)]) ∧ w.heap.size ≤ g ∧ Own w' g (up) ∧ Below w.heap.size w w' := by
  obtain ⟨bb, off, rfl, _, hbb, hc⟩ := hp.at_ hu
  have HL := Lib.hid hp.1
  have HP := Lib.hid hp
  have HQ := Lib.hid hq
  obtain ⟨i0, hi0, hz0, hz1, hz2⟩ := info_parts Tryd.info3
  have hu0 : (0 : Int) ≤ u := by omega
  have hu1 : (u : Int) < la := by omega
  have hv0 : (0 : Int) ≤ v := by omega
  have hv1 : (v : Int) < la := by omega
  have hw0 : (0 : Int) ≤ ww := by omega
  have hw1 : (ww : Int) < la := by omega
  clear hc hp hq
  have HE := Lib.hid e
  clear e
  go_enter Tryd.func46, Tryd.ntmps46
  go_wp2_with (at_builtin; refine wpList_append_own _ rfl _ _ 22 rfl (w.heap.size + 2) 3 i0 (.int .i64 0) 1 8 Tryd.underlying22 hi0 hz0 hz1 hz2 rfl (by decide) (.slice (some ⟨w.heap.size + 1 + 1, 0, none⟩) 0 0) 0 [] rfl ?c0 ⟨bb, off, none⟩ la ca (intsOf up) rfl ?c1 ?c2 ?c3 ?c4 ?c5 ?c6 ?_)
  case c0 => exact made_row _ _ _
  case c1 => simp [intsOf, HL.out]
  case c2 => exact three_news _ _ _ _ HP.out hhi
  case c3 => intro u hu; simp [intsOf] at hu; obtain ⟨n, _, rfl⟩ := hu; rfl
  case c4 => unfold maxLen; omega
  case c5 => omega
  case c6 => simp
  intro v7 w1 hown hgr hnn
  obtain ⟨g, c7, rfl, hg, ho, BT, BR, hb1⟩ := after_append (t1 := 81) (t2 := 94) (cs1 := [.int .i64 (k : Int), .int .i64 (x : Int), .int .i64 (y : Int), .int .i64 6, .int .i64 (u : Int), .int .i64 (v : Int), .int .i64 (ww : Int), .int .i64 (r : Int), .bool false, .int .i64 (res : Int)]) (cs2 := [.slice none 0 0, .int .i64 0, .int .i64 0, .int .i64 0, .int .i64 0, .int .i64 0, .int .i64 0, .int .i64 0, .int .i64 0, .bool false, .int .i64 0]) hgr hown HL.out (by omega)
  clear hgr hown hnn
  have hs1 := BR.lt
  have hg1 := ho.1
  have HB1 := Lib.hid hb1
  have HO := Lib.hid ho
  obtain ⟨_, _, _, _, _, _, _, _, _, _⟩ := BT.ten
  obtain ⟨_, _, _, _, _, _, _, _, _, _⟩ := BT.tenf
  have hgw : w.heap.size ≤ g := by omega
  have n5 : w.heap.size + 1 ≠ w.heap.size := by omega
  have n6 : w.heap.size ≠ w.heap.size + 1 := by omega
  have n1 : w.heap.size ≠ g := by omega
  have n2 : w.heap.size + 1 ≠ g := by omega
  have n3 : g ≠ w.heap.size := by omega
  have n4 : g ≠ w.heap.size + 1 := by omega
  have HBR := Lib.hid BR
  have HBT := Lib.hid BT
  clear BT BR hb1 ho
  obtain ⟨_, _, _, _, _, _, _, _, _, _, _⟩ := HBR.out.eleven
  obtain ⟨_, _, _, _, _, _, _, _, _, _, _⟩ := HBR.out.elevenf
  go_wp2_with fail
  refine (swap_no g la c7 up v ww r _ HO.out HL.out hv HE.out hm).mono ?_
  rintro e w' ⟨rfl, rfl⟩
  go_wp2_with fail
  refine bodyPost_ret (v := .agg #[.slice (some ⟨g, 0, none⟩) la c7, .int .i64 (k : Int), .int .i64 (x : Int), .int .i64 (y : Int), .int .i64 4, .int .i64 (u : Int), .int .i64 (ww : Int), .int .i64 (ww : Int), .int .i64 (r : Int), .bool false, .int .i64 (res : Int)]) (by simp only [results, Tryd.results46]; go_simp) rfl ⟨_, _, rfl, hgw, ?_, ?_⟩
  · (repeat refine Own.setOther ?_ (by assumption) _); exact HO.out
  · (repeat refine Below.setCell ?_ (by first | assumption | exact Nat.le_refl _ | exact Nat.le_succ _) _); exact HB1.out

set_option maxRecDepth 100000 in
set_option maxHeartbeats 2000000 in
theorem rstep_4r (a b : Option Addr) (la ca cb : Nat) (pr : List Int) (up : List Nat) (k x y u v ww r res : Nat) (w : World) (st' : Int) (dn' : Bool) (res' : Int) {lo hi lo2 hi2 : Nat}
    (hp : RowN lo hi w a la up) (hhi : hi ≤ w.heap.size) (hq : Row lo2 hi2 w b la pr) (hhi2 : hi2 ≤ w.heap.size) (hu : u < la) (hv : v < la) (hw : ww < la) (hr : r < la) (hm : la ≤ 1000000) (e : el up v = v) (h : Snd k u v 4 false res st' dn' res') :
    Calls Tryd.prog 46 #[.slice a la ca, .slice b la cb, .agg #[.int .i64 (k : Int), .int .i64 (x : Int), .int .i64 (y : Int), .int .i64 4, .int .i64 (u : Int), .int .i64 (v : Int), .int .i64 (ww : Int), .int .i64 (r : Int), .bool false, .int .i64 (res : Int)]] w fun e w' =>
      ∃ g c, e = .returned (.agg #[.slice (some ⟨g, 0, none⟩) la c, .int .i64 (k : Int), .int .i64 (x : Int), .int .i64 (y : Int), .int .i64 st', .int .i64 (u : Int), .int .i64 (v : Int), .int .i64 (v : Int), .int .i64 (r : Int), .bool dn', .int .i64 res']) ∧ w.heap.size ≤ g ∧ Own w' g (up) ∧ Below w.heap.size w w' := by
  obtain ⟨bb, off, rfl, _, hbb, hc⟩ := hp.at_ hu
  have HL := Lib.hid hp.1
  have HP := Lib.hid hp
  have HQ := Lib.hid hq
  obtain ⟨i0, hi0, hz0, hz1, hz2⟩ := info_parts Tryd.info3
  have hu0 : (0 : Int) ≤ u := by omega
  have hu1 : (u : Int) < la := by omega
  have hv0 : (0 : Int) ≤ v := by omega
  have hv1 : (v : Int) < la := by omega
  have hw0 : (0 : Int) ≤ ww := by omega
  have hw1 : (ww : Int) < la := by omega
  clear hc hp hq
  have HF := Lib.hid h
  clear h
  go_enter Tryd.func46, Tryd.ntmps46
  go_wp2_with (at_builtin; refine wpList_append_own _ rfl _ _ 22 rfl (w.heap.size + 2) 3 i0 (.int .i64 0) 1 8 Tryd.underlying22 hi0 hz0 hz1 hz2 rfl (by decide) (.slice (some ⟨w.heap.size + 1 + 1, 0, none⟩) 0 0) 0 [] rfl ?c0 ⟨bb, off, none⟩ la ca (intsOf up) rfl ?c1 ?c2 ?c3 ?c4 ?c5 ?c6 ?_)
  case c0 => exact made_row _ _ _
  case c1 => simp [intsOf, HL.out]
  case c2 => exact three_news _ _ _ _ HP.out hhi
  case c3 => intro u hu; simp [intsOf] at hu; obtain ⟨n, _, rfl⟩ := hu; rfl
  case c4 => unfold maxLen; omega
  case c5 => omega
  case c6 => simp
  intro v7 w1 hown hgr hnn
  obtain ⟨g, c7, rfl, hg, ho, BT, BR, hb1⟩ := after_append (t1 := 81) (t2 := 94) (cs1 := [.int .i64 (k : Int), .int .i64 (x : Int), .int .i64 (y : Int), .int .i64 4, .int .i64 (u : Int), .int .i64 (v : Int), .int .i64 (ww : Int), .int .i64 (r : Int), .bool false, .int .i64 (res : Int)]) (cs2 := [.slice none 0 0, .int .i64 0, .int .i64 0, .int .i64 0, .int .i64 0, .int .i64 0, .int .i64 0, .int .i64 0, .int .i64 0, .bool false, .int .i64 0]) hgr hown HL.out (by omega)
  clear hgr hown hnn
  have hs1 := BR.lt
  have hg1 := ho.1
  have HB1 := Lib.hid hb1
  have HO := Lib.hid ho
  obtain ⟨_, _, _, _, _, _, _, _, _, _⟩ := BT.ten
  obtain ⟨_, _, _, _, _, _, _, _, _, _⟩ := BT.tenf
  have hgw : w.heap.size ≤ g := by omega
  have n5 : w.heap.size + 1 ≠ w.heap.size := by omega
  have n6 : w.heap.size ≠ w.heap.size + 1 := by omega
  have n1 : w.heap.size ≠ g := by omega
  have n2 : w.heap.size + 1 ≠ g := by omega
  have n3 : g ≠ w.heap.size := by omega
  have n4 : g ≠ w.heap.size + 1 := by omega
  have HBR := Lib.hid BR
  have HBT := Lib.hid BT
  clear BT BR hb1 ho
  obtain ⟨cv, fv⟩ := HO.out.2 v (by rw [HL.out]; exact hv)
  rw [e] at cv
  have hs : ((v : Int) == (v : Int)) = true := by simp
  clear e
  go_wp2_with fail
  refine (rsecond_v _ _ _ _ _ _ _ _ _ _ st' dn' res' _ HF.out).mono ?_
  rintro e w2 ⟨rfl, hb2⟩
  have hs2 := hb2.size
  simp only [World.size_setCell, size_drewN'] at hs2
  have HO2 : Hid (Own w2 g (up)) := by refine Own.below ?_ hb2 (by simp; omega); (repeat refine Own.setOther ?_ (by assumption) _); exact HO.out
  have HB2 : Hid (Below w.heap.size w w2) := by refine Below.trans ?_ (hb2.mono (by simp; omega)); (repeat refine Below.setCell ?_ (by first | assumption | exact Nat.le_refl _ | exact Nat.le_succ _) _); exact HB1.out
  have HR2 : Hid (Box w2 (w.heap.size + 1) 94 [.slice none 0 0, .int .i64 0, .int .i64 0, .int .i64 0, .int .i64 0, .int .i64 0, .int .i64 0, .int .i64 0, .int .i64 0, .bool false, .int .i64 0]) := by refine Box.below ?_ hb2; (repeat refine Box.setOther ?_ (by assumption) _); exact HBR.out
  obtain ⟨_, _, _, _, _, _, _, _, _, _, _⟩ := HR2.out.eleven
  obtain ⟨_, _, _, _, _, _, _, _, _, _, _⟩ := HR2.out.elevenf
  have hlt2 : w.heap.size + 1 < w2.heap.size := by omega
  clear hb2 hs2
  go_wp2_with fail
  refine bodyPost_ret (v := .agg #[.slice (some ⟨g, 0, none⟩) la c7, .int .i64 (k : Int), .int .i64 (x : Int), .int .i64 (y : Int), .int .i64 st', .int .i64 (u : Int), .int .i64 (v : Int), .int .i64 (v : Int), .int .i64 (r : Int), .bool dn', .int .i64 res']) (by simp only [results, Tryd.results46]; go_simp) rfl ⟨_, _, rfl, hgw, ?_, ?_⟩
  · (repeat refine Own.setOther ?_ (by assumption) _); exact HO2.out
  · (repeat refine Below.setCell ?_ (by first | assumption | exact Nat.le_refl _ | exact Nat.le_succ _) _); exact HB2.out

end Go.Proofs.YtpfcpeljfgmjgaaDoor

namespace Go.Proofs.YtpfcpeljfgmjgaaDoor
open Go.RowKit
set_option linter.unusedVariables false
set_option linter.unusedSimpArgs false

set_option maxRecDepth 100000 in
set_option maxHeartbeats 2000000 in
theorem rstep_4n (a b : Option Addr) (la ca cb : Nat) (pr : List Int) (up : List Nat) (k x y u v ww r res : Nat) (w : World) {lo hi lo2 hi2 : Nat}
    (hp : RowN lo hi w a la up) (hhi : hi ≤ w.heap.size) (hq : Row lo2 hi2 w b la pr) (hhi2 : hi2 ≤ w.heap.size) (hu : u < la) (hv : v < la) (hw : ww < la) (hr : r < la) (hm : la ≤ 1000000) (e : el up v ≠ v) :
    Calls Tryd.prog 46 #[.slice a la ca, .slice b la cb, .agg #[.int .i64 (k : Int), .int .i64 (x : Int), .int .i64 (y : Int), .int .i64 4, .int .i64 (u : Int), .int .i64 (v : Int), .int .i64 (ww : Int), .int .i64 (r : Int), .bool false, .int .i64 (res : Int)]] w fun e w' =>
      ∃ g c, e = .returned (.agg #[.slice (some ⟨g, 0, none⟩) la c, .int .i64 (k : Int), .int .i64 (x : Int), .int .i64 (y : Int), .int .i64 5, .int .i64 (u : Int), .int .i64 (v : Int), .int .i64 (el up v : Int), .int .i64 (r : Int), .bool false, .int .i64 (res : Int)]) ∧ w.heap.size ≤ g ∧ Own w' g (up) ∧ Below w.heap.size w w' := by
  obtain ⟨bb, off, rfl, _, hbb, hc⟩ := hp.at_ hu
  have HL := Lib.hid hp.1
  have HP := Lib.hid hp
  have HQ := Lib.hid hq
  obtain ⟨i0, hi0, hz0, hz1, hz2⟩ := info_parts Tryd.info3
  have hu0 : (0 : Int) ≤ u := by omega
  have hu1 : (u : Int) < la := by omega
  have hv0 : (0 : Int) ≤ v := by omega
  have hv1 : (v : Int) < la := by omega
  have hw0 : (0 : Int) ≤ ww := by omega
  have hw1 : (ww : Int) < la := by omega
  clear hc hp hq
  obtain ⟨q, hq⟩ : ∃ q, el up v = q := ⟨_, rfl⟩
  rw [hq] at e ⊢
  have HE := Lib.hid hq
  have hs : ((q : Int) == (v : Int)) = false := by simp; omega
  clear e hq
  go_enter Tryd.func46, Tryd.ntmps46
  go_wp2_with (at_builtin; refine wpList_append_own _ rfl _ _ 22 rfl (w.heap.size + 2) 3 i0 (.int .i64 0) 1 8 Tryd.underlying22 hi0 hz0 hz1 hz2 rfl (by decide) (.slice (some ⟨w.heap.size + 1 + 1, 0, none⟩) 0 0) 0 [] rfl ?c0 ⟨bb, off, none⟩ la ca (intsOf up) rfl ?c1 ?c2 ?c3 ?c4 ?c5 ?c6 ?_)
  case c0 => exact made_row _ _ _
  case c1 => simp [intsOf, HL.out]
  case c2 => exact three_news _ _ _ _ HP.out hhi
  case c3 => intro u hu; simp [intsOf] at hu; obtain ⟨n, _, rfl⟩ := hu; rfl
  case c4 => unfold maxLen; omega
  case c5 => omega
  case c6 => simp
  intro v7 w1 hown hgr hnn
  obtain ⟨g, c7, rfl, hg, ho, BT, BR, hb1⟩ := after_append (t1 := 81) (t2 := 94) (cs1 := [.int .i64 (k : Int), .int .i64 (x : Int), .int .i64 (y : Int), .int .i64 4, .int .i64 (u : Int), .int .i64 (v : Int), .int .i64 (ww : Int), .int .i64 (r : Int), .bool false, .int .i64 (res : Int)]) (cs2 := [.slice none 0 0, .int .i64 0, .int .i64 0, .int .i64 0, .int .i64 0, .int .i64 0, .int .i64 0, .int .i64 0, .int .i64 0, .bool false, .int .i64 0]) hgr hown HL.out (by omega)
  clear hgr hown hnn
  have hs1 := BR.lt
  have hg1 := ho.1
  have HB1 := Lib.hid hb1
  have HO := Lib.hid ho
  obtain ⟨_, _, _, _, _, _, _, _, _, _⟩ := BT.ten
  obtain ⟨_, _, _, _, _, _, _, _, _, _⟩ := BT.tenf
  have hgw : w.heap.size ≤ g := by omega
  have n5 : w.heap.size + 1 ≠ w.heap.size := by omega
  have n6 : w.heap.size ≠ w.heap.size + 1 := by omega
  have n1 : w.heap.size ≠ g := by omega
  have n2 : w.heap.size + 1 ≠ g := by omega
  have n3 : g ≠ w.heap.size := by omega
  have n4 : g ≠ w.heap.size + 1 := by omega
  have HBR := Lib.hid BR
  have HBT := Lib.hid BT
  clear BT BR hb1 ho
  obtain ⟨cv, fv⟩ := HO.out.2 v (by rw [HL.out]; exact hv)
  rw [HE.out] at cv
  obtain ⟨_, _, _, _, _, _, _, _, _, _, _⟩ := HBR.out.eleven
  obtain ⟨_, _, _, _, _, _, _, _, _, _, _⟩ := HBR.out.elevenf
  go_wp2_with fail
  refine bodyPost_ret (v := .agg #[.slice (some ⟨g, 0, none⟩) la c7, .int .i64 (k : Int), .int .i64 (x : Int), .int .i64 (y : Int), .int .i64 5, .int .i64 (u : Int), .int .i64 (v : Int), .int .i64 (q : Int), .int .i64 (r : Int), .bool false, .int .i64 (res : Int)]) (by simp only [results, Tryd.results46]; go_simp) rfl ⟨_, _, rfl, hgw, ?_, ?_⟩
  · (repeat refine Own.setOther ?_ (by assumption) _); exact HO.out
  · (repeat refine Below.setCell ?_ (by first | assumption | exact Nat.le_refl _ | exact Nat.le_succ _) _); exact HB1.out

set_option maxRecDepth 100000 in
set_option maxHeartbeats 2000000 in
theorem rstep_5r (a b : Option Addr) (la ca cb : Nat) (pr : List Int) (up : List Nat) (k x y u v ww r res : Nat) (w : World) (st' : Int) (dn' : Bool) (res' : Int) {lo hi lo2 hi2 : Nat}
    (hp : RowN lo hi w a la up) (hhi : hi ≤ w.heap.size) (hq : Row lo2 hi2 w b la pr) (hhi2 : hi2 ≤ w.heap.size) (hu : u < la) (hv : v < la) (hw : ww < la) (hr : r < la) (hm : la ≤ 1000000) (e : el up ww = ww) (h : Snd k u ww 5 false res st' dn' res') :
    Calls Tryd.prog 46 #[.slice a la ca, .slice b la cb, .agg #[.int .i64 (k : Int), .int .i64 (x : Int), .int .i64 (y : Int), .int .i64 5, .int .i64 (u : Int), .int .i64 (v : Int), .int .i64 (ww : Int), .int .i64 (r : Int), .bool false, .int .i64 (res : Int)]] w fun e w' =>
      ∃ g c, e = .returned (.agg #[.slice (some ⟨g, 0, none⟩) la c, .int .i64 (k : Int), .int .i64 (x : Int), .int .i64 (y : Int), .int .i64 st', .int .i64 (u : Int), .int .i64 (ww : Int), .int .i64 (ww : Int), .int .i64 (ww : Int), .bool dn', .int .i64 res']) ∧ w.heap.size ≤ g ∧ Own w' g (up) ∧ Below w.heap.size w w' := by
  obtain ⟨bb, off, rfl, _, hbb, hc⟩ := hp.at_ hu
  have HL := Lib.hid hp.1
  have HP := Lib.hid hp
  have HQ := Lib.hid hq
  obtain ⟨i0, hi0, hz0, hz1, hz2⟩ := info_parts Tryd.info3
  have hu0 : (0 : Int) ≤ u := by omega
  have hu1 : (u : Int) < la := by omega
  have hv0 : (0 : Int) ≤ v := by omega
  have hv1 : (v : Int) < la := by omega
  have hw0 : (0 : Int) ≤ ww := by omega
  have hw1 : (ww : Int) < la := by omega
  clear hc hp hq
  have HF := Lib.hid h
  clear h
  go_enter Tryd.func46, Tryd.ntmps46
  go_wp2_with (at_builtin; refine wpList_append_own _ rfl _ _ 22 rfl (w.heap.size + 2) 3 i0 (.int .i64 0) 1 8 Tryd.underlying22 hi0 hz0 hz1 hz2 rfl (by decide) (.slice (some ⟨w.heap.size + 1 + 1, 0, none⟩) 0 0) 0 [] rfl ?c0 ⟨bb, off, none⟩ la ca (intsOf up) rfl ?c1 ?c2 ?c3 ?c4 ?c5 ?c6 ?_)
  case c0 => exact made_row _ _ _
  case c1 => simp [intsOf, HL.out]
  case c2 => exact three_news _ _ _ _ HP.out hhi
  case c3 => intro u hu; simp [intsOf] at hu; obtain ⟨n, _, rfl⟩ := hu; rfl
  case c4 => unfold maxLen; omega
  case c5 => omega
  case c6 => simp
  intro v7 w1 hown hgr hnn
  obtain ⟨g, c7, rfl, hg, ho, BT, BR, hb1⟩ := after_append (t1 := 81) (t2 := 94) (cs1 := [.int .i64 (k : Int), .int .i64 (x : Int), .int .i64 (y : Int), .int .i64 5, .int .i64 (u : Int), .int .i64 (v : Int), .int .i64 (ww : Int), .int .i64 (r : Int), .bool false, .int .i64 (res : Int)]) (cs2 := [.slice none 0 0, .int .i64 0, .int .i64 0, .int .i64 0, .int .i64 0, .int .i64 0, .int .i64 0, .int .i64 0, .int .i64 0, .bool false, .int .i64 0]) hgr hown HL.out (by omega)
  clear hgr hown hnn
  have hs1 := BR.lt
  have hg1 := ho.1
  have HB1 := Lib.hid hb1
  have HO := Lib.hid ho
  obtain ⟨_, _, _, _, _, _, _, _, _, _⟩ := BT.ten
  obtain ⟨_, _, _, _, _, _, _, _, _, _⟩ := BT.tenf
  have hgw : w.heap.size ≤ g := by omega
  have n5 : w.heap.size + 1 ≠ w.heap.size := by omega
  have n6 : w.heap.size ≠ w.heap.size + 1 := by omega
  have n1 : w.heap.size ≠ g := by omega
  have n2 : w.heap.size + 1 ≠ g := by omega
  have n3 : g ≠ w.heap.size := by omega
  have n4 : g ≠ w.heap.size + 1 := by omega
  have HBR := Lib.hid BR
  have HBT := Lib.hid BT
  clear BT BR hb1 ho
  obtain ⟨cww, fww⟩ := HO.out.2 ww (by rw [HL.out]; exact hw)
  rw [e] at cww
  have hs : ((ww : Int) == (ww : Int)) = true := by simp
  clear e
  go_wp2_with fail
  refine (rsecond_v _ _ _ _ _ _ _ _ _ _ st' dn' res' _ HF.out).mono ?_
  rintro e w2 ⟨rfl, hb2⟩
  have hs2 := hb2.size
  simp only [World.size_setCell, size_drewN'] at hs2
  have HO2 : Hid (Own w2 g (up)) := by refine Own.below ?_ hb2 (by simp; omega); (repeat refine Own.setOther ?_ (by assumption) _); exact HO.out
  have HB2 : Hid (Below w.heap.size w w2) := by refine Below.trans ?_ (hb2.mono (by simp; omega)); (repeat refine Below.setCell ?_ (by first | assumption | exact Nat.le_refl _ | exact Nat.le_succ _) _); exact HB1.out
  have HR2 : Hid (Box w2 (w.heap.size + 1) 94 [.slice none 0 0, .int .i64 0, .int .i64 0, .int .i64 0, .int .i64 0, .int .i64 0, .int .i64 0, .int .i64 0, .int .i64 0, .bool false, .int .i64 0]) := by refine Box.below ?_ hb2; (repeat refine Box.setOther ?_ (by assumption) _); exact HBR.out
  obtain ⟨_, _, _, _, _, _, _, _, _, _, _⟩ := HR2.out.eleven
  obtain ⟨_, _, _, _, _, _, _, _, _, _, _⟩ := HR2.out.elevenf
  have hlt2 : w.heap.size + 1 < w2.heap.size := by omega
  clear hb2 hs2
  go_wp2_with fail
  refine bodyPost_ret (v := .agg #[.slice (some ⟨g, 0, none⟩) la c7, .int .i64 (k : Int), .int .i64 (x : Int), .int .i64 (y : Int), .int .i64 st', .int .i64 (u : Int), .int .i64 (ww : Int), .int .i64 (ww : Int), .int .i64 (ww : Int), .bool dn', .int .i64 res']) (by simp only [results, Tryd.results46]; go_simp) rfl ⟨_, _, rfl, hgw, ?_, ?_⟩
  · (repeat refine Own.setOther ?_ (by assumption) _); exact HO2.out
  · (repeat refine Below.setCell ?_ (by first | assumption | exact Nat.le_refl _ | exact Nat.le_succ _) _); exact HB2.out

set_option maxRecDepth 100000 in
set_option maxHeartbeats 2000000 in
theorem rstep_5n (a b : Option Addr) (la ca cb : Nat) (pr : List Int) (up : List Nat) (k x y u v ww r res : Nat) (w : World) {lo hi lo2 hi2 : Nat}
    (hp : RowN lo hi w a la up) (hhi : hi ≤ w.heap.size) (hq : Row lo2 hi2 w b la pr) (hhi2 : hi2 ≤ w.heap.size) (hu : u < la) (hv : v < la) (hw : ww < la) (hr : r < la) (hm : la ≤ 1000000) (e : el up ww ≠ ww) :
    Calls Tryd.prog 46 #[.slice a la ca, .slice b la cb, .agg #[.int .i64 (k : Int), .int .i64 (x : Int), .int .i64 (y : Int), .int .i64 5, .int .i64 (u : Int), .int .i64 (v : Int), .int .i64 (ww : Int), .int .i64 (r : Int), .bool false, .int .i64 (res : Int)]] w fun e w' =>
      ∃ g c, e = .returned (.agg #[.slice (some ⟨g, 0, none⟩) la c, .int .i64 (k : Int), .int .i64 (x : Int), .int .i64 (y : Int), .int .i64 6, .int .i64 (u : Int), .int .i64 (v : Int), .int .i64 (ww : Int), .int .i64 (el up ww : Int), .bool false, .int .i64 (res : Int)]) ∧ w.heap.size ≤ g ∧ Own w' g (up) ∧ Below w.heap.size w w' := by
  obtain ⟨bb, off, rfl, _, hbb, hc⟩ := hp.at_ hu
  have HL := Lib.hid hp.1
  have HP := Lib.hid hp
  have HQ := Lib.hid hq
  obtain ⟨i0, hi0, hz0, hz1, hz2⟩ := info_parts Tryd.info3
  have hu0 : (0 : Int) ≤ u := by omega
  have hu1 : (u : Int) < la := by omega
  have hv0 : (0 : Int) ≤ v := by omega
  have hv1 : (v : Int) < la := by omega
  have hw0 : (0 : Int) ≤ ww := by omega
  have hw1 : (ww : Int) < la := by omega
  clear hc hp hq
  obtain ⟨q, hq⟩ : ∃ q, el up ww = q := ⟨_, rfl⟩
  rw [hq] at e ⊢
  have HE := Lib.hid hq
  have hs : ((q : Int) == (ww : Int)) = false := by simp; omega
  clear e hq
  go_enter Tryd.func46, Tryd.ntmps46
  go_wp2_with (at_builtin; refine wpList_append_own _ rfl _ _ 22 rfl (w.heap.size + 2) 3 i0 (.int .i64 0) 1 8 Tryd.underlying22 hi0 hz0 hz1 hz2 rfl (by decide) (.slice (some ⟨w.heap.size + 1 + 1, 0, none⟩) 0 0) 0 [] rfl ?c0 ⟨bb, off, none⟩ la ca (intsOf up) rfl ?c1 ?c2 ?c3 ?c4 ?c5 ?c6 ?_)
  case c0 => exact made_row _ _ _
  case c1 => simp [intsOf, HL.out]
  case c2 => exact three_news _ _ _ _ HP.out hhi
  case c3 => intro u hu; simp [intsOf] at hu; obtain ⟨n, _, rfl⟩ := hu; rfl
  case c4 => unfold maxLen; omega
  case c5 => omega
  case c6 => simp
  intro v7 w1 hown hgr hnn
  obtain ⟨g, c7, rfl, hg, ho, BT, BR, hb1⟩ := after_append (t1 := 81) (t2 := 94) (cs1 := [.int .i64 (k : Int), .int .i64 (x : Int), .int .i64 (y : Int), .int .i64 5, .int .i64 (u : Int), .int .i64 (v : Int), .int .i64 (ww : Int), .int .i64 (r : Int), .bool false, .int .i64 (res : Int)]) (cs2 := [.slice none 0 0, .int .i64 0, .int .i64 0, .int .i64 0, .int .i64 0, .int .i64 0, .int .i64 0, .int .i64 0, .int .i64 0, .bool false, .int .i64 0]) hgr hown HL.out (by omega)
  clear hgr hown hnn
  have hs1 := BR.lt
  have hg1 := ho.1
  have HB1 := Lib.hid hb1
  have HO := Lib.hid ho
  obtain ⟨_, _, _, _, _, _, _, _, _, _⟩ := BT.ten
  obtain ⟨_, _, _, _, _, _, _, _, _, _⟩ := BT.tenf
  have hgw : w.heap.size ≤ g := by omega
  have n5 : w.heap.size + 1 ≠ w.heap.size := by omega
  have n6 : w.heap.size ≠ w.heap.size + 1 := by omega
  have n1 : w.heap.size ≠ g := by omega
  have n2 : w.heap.size + 1 ≠ g := by omega
  have n3 : g ≠ w.heap.size := by omega
  have n4 : g ≠ w.heap.size + 1 := by omega
  have HBR := Lib.hid BR
  have HBT := Lib.hid BT
  clear BT BR hb1 ho
  obtain ⟨cww, fww⟩ := HO.out.2 ww (by rw [HL.out]; exact hw)
  rw [HE.out] at cww
  obtain ⟨_, _, _, _, _, _, _, _, _, _, _⟩ := HBR.out.eleven
  obtain ⟨_, _, _, _, _, _, _, _, _, _, _⟩ := HBR.out.elevenf
  go_wp2_with fail
  refine bodyPost_ret (v := .agg #[.slice (some ⟨g, 0, none⟩) la c7, .int .i64 (k : Int), .int .i64 (x : Int), .int .i64 (y : Int), .int .i64 6, .int .i64 (u : Int), .int .i64 (v : Int), .int .i64 (ww : Int), .int .i64 (q : Int), .bool false, .int .i64 (res : Int)]) (by simp only [results, Tryd.results46]; go_simp) rfl ⟨_, _, rfl, hgw, ?_, ?_⟩
  · (repeat refine Own.setOther ?_ (by assumption) _); exact HO.out
  · (repeat refine Below.setCell ?_ (by first | assumption | exact Nat.le_refl _ | exact Nat.le_succ _) _); exact HB1.out

set_option maxRecDepth 100000 in
set_option maxHeartbeats 2000000 in
theorem rstep_7y (a b : Option Addr) (la ca cb : Nat) (pr : List Int) (up : List Nat) (k x y u v ww r res : Nat) (w : World) {lo hi lo2 hi2 : Nat}
    (hp : RowN lo hi w a la up) (hhi : hi ≤ w.heap.size) (hq : Row lo2 hi2 w b la pr) (hhi2 : hi2 ≤ w.heap.size) (hu : u < la) (hv : v < la) (hw : ww < la) (hr : r < la) (hm : la ≤ 1000000) (e : el up u = u) :
    Calls Tryd.prog 46 #[.slice a la ca, .slice b la cb, .agg #[.int .i64 (k : Int), .int .i64 (x : Int), .int .i64 (y : Int), .int .i64 7, .int .i64 (u : Int), .int .i64 (v : Int), .int .i64 (ww : Int), .int .i64 (r : Int), .bool false, .int .i64 (res : Int)]] w fun e w' =>
      ∃ g c, e = .returned (.agg #[.slice (some ⟨g, 0, none⟩) la c, .int .i64 (k : Int), .int .i64 (x : Int), .int .i64 (y : Int), .int .i64 7, .int .i64 (u : Int), .int .i64 (v : Int), .int .i64 (u : Int), .int .i64 (r : Int), .bool true, .int .i64 0]) ∧ w.heap.size ≤ g ∧ Own w' g (up) ∧ Below w.heap.size w w' := by
  obtain ⟨bb, off, rfl, _, hbb, hc⟩ := hp.at_ hu
  have HL := Lib.hid hp.1
  have HP := Lib.hid hp
  have HQ := Lib.hid hq
  obtain ⟨i0, hi0, hz0, hz1, hz2⟩ := info_parts Tryd.info3
  have hu0 : (0 : Int) ≤ u := by omega
  have hu1 : (u : Int) < la := by omega
  have hv0 : (0 : Int) ≤ v := by omega
  have hv1 : (v : Int) < la := by omega
  have hw0 : (0 : Int) ≤ ww := by omega
  have hw1 : (ww : Int) < la := by omega
  clear hc hp hq
  go_enter Tryd.func46, Tryd.ntmps46
  go_wp2_with (at_builtin; refine wpList_append_own _ rfl _ _ 22 rfl (w.heap.size + 2) 3 i0 (.int .i64 0) 1 8 Tryd.underlying22 hi0 hz0 hz1 hz2 rfl (by decide) (.slice (some ⟨w.heap.size + 1 + 1, 0, none⟩) 0 0) 0 [] rfl ?c0 ⟨bb, off, none⟩ la ca (intsOf up) rfl ?c1 ?c2 ?c3 ?c4 ?c5 ?c6 ?_)
  case c0 => exact made_row _ _ _
  case c1 => simp [intsOf, HL.out]
  case c2 => exact three_news _ _ _ _ HP.out hhi
  case c3 => intro u hu; simp [intsOf] at hu; obtain ⟨n, _, rfl⟩ := hu; rfl
  case c4 => unfold maxLen; omega
  case c5 => omega
  case c6 => simp
  intro v7 w1 hown hgr hnn
  obtain ⟨g, c7, rfl, hg, ho, BT, BR, hb1⟩ := after_append (t1 := 81) (t2 := 94) (cs1 := [.int .i64 (k : Int), .int .i64 (x : Int), .int .i64 (y : Int), .int .i64 7, .int .i64 (u : Int), .int .i64 (v : Int), .int .i64 (ww : Int), .int .i64 (r : Int), .bool false, .int .i64 (res : Int)]) (cs2 := [.slice none 0 0, .int .i64 0, .int .i64 0, .int .i64 0, .int .i64 0, .int .i64 0, .int .i64 0, .int .i64 0, .int .i64 0, .bool false, .int .i64 0]) hgr hown HL.out (by omega)
  clear hgr hown hnn
  have hs1 := BR.lt
  have hg1 := ho.1
  have HB1 := Lib.hid hb1
  have HO := Lib.hid ho
  obtain ⟨_, _, _, _, _, _, _, _, _, _⟩ := BT.ten
  obtain ⟨_, _, _, _, _, _, _, _, _, _⟩ := BT.tenf
  have hgw : w.heap.size ≤ g := by omega
  have n5 : w.heap.size + 1 ≠ w.heap.size := by omega
  have n6 : w.heap.size ≠ w.heap.size + 1 := by omega
  have n1 : w.heap.size ≠ g := by omega
  have n2 : w.heap.size + 1 ≠ g := by omega
  have n3 : g ≠ w.heap.size := by omega
  have n4 : g ≠ w.heap.size + 1 := by omega
  have HBR := Lib.hid BR
  have HBT := Lib.hid BT
  clear BT BR hb1 ho
  obtain ⟨cu, fu⟩ := HO.out.2 u (by rw [HL.out]; exact hu)
  rw [e] at cu
  have hs : ((u : Int) == (u : Int)) = true := by simp
  clear e
  go_wp2_with fail
  refine (rdone_lit _ _ _ _ _ _ _ _ _ _ _ _).mono ?_
  rintro e w2 ⟨rfl, hb2⟩
  have hs2 := hb2.size
  simp only [World.size_setCell, size_drewN'] at hs2
  have HO2 : Hid (Own w2 g (up)) := by refine Own.below ?_ hb2 (by simp; omega); (repeat refine Own.setOther ?_ (by assumption) _); exact HO.out
  have HB2 : Hid (Below w.heap.size w w2) := by refine Below.trans ?_ (hb2.mono (by simp; omega)); (repeat refine Below.setCell ?_ (by first | assumption | exact Nat.le_refl _ | exact Nat.le_succ _) _); exact HB1.out
  have HR2 : Hid (Box w2 (w.heap.size + 1) 94 [.slice none 0 0, .int .i64 0, .int .i64 0, .int .i64 0, .int .i64 0, .int .i64 0, .int .i64 0, .int .i64 0, .int .i64 0, .bool false, .int .i64 0]) := by refine Box.below ?_ hb2; (repeat refine Box.setOther ?_ (by assumption) _); exact HBR.out
  obtain ⟨_, _, _, _, _, _, _, _, _, _, _⟩ := HR2.out.eleven
  obtain ⟨_, _, _, _, _, _, _, _, _, _, _⟩ := HR2.out.elevenf
  have hlt2 : w.heap.size + 1 < w2.heap.size := by omega
  clear hb2 hs2
  go_wp2_with fail
  refine bodyPost_ret (v := .agg #[.slice (some ⟨g, 0, none⟩) la c7, .int .i64 (k : Int), .int .i64 (x : Int), .int .i64 (y : Int), .int .i64 7, .int .i64 (u : Int), .int .i64 (v : Int), .int .i64 (u : Int), .int .i64 (r : Int), .bool true, .int .i64 0]) (by simp only [results, Tryd.results46]; go_simp) rfl ⟨_, _, rfl, hgw, ?_, ?_⟩
  · (repeat refine Own.setOther ?_ (by assumption) _); exact HO2.out
  · (repeat refine Below.setCell ?_ (by first | assumption | exact Nat.le_refl _ | exact Nat.le_succ _) _); exact HB2.out

set_option maxRecDepth 100000 in
set_option maxHeartbeats 2000000 in
theorem rstep_7n (a b : Option Addr) (la ca cb : Nat) (pr : List Int) (up : List Nat) (k x y u v ww r res : Nat) (w : World) {lo hi lo2 hi2 : Nat}
    (hp : RowN lo hi w a la up) (hhi : hi ≤ w.heap.size) (hq : Row lo2 hi2 w b la pr) (hhi2 : hi2 ≤ w.heap.size) (hu : u < la) (hv : v < la) (hw : ww < la) (hr : r < la) (hm : la ≤ 1000000) (e : el up u ≠ u) :
    Calls Tryd.prog 46 #[.slice a la ca, .slice b la cb, .agg #[.int .i64 (k : Int), .int .i64 (x : Int), .int .i64 (y : Int), .int .i64 7, .int .i64 (u : Int), .int .i64 (v : Int), .int .i64 (ww : Int), .int .i64 (r : Int), .bool false, .int .i64 (res : Int)]] w fun e w' =>
      ∃ g c, e = .returned (.agg #[.slice (some ⟨g, 0, none⟩) la c, .int .i64 (k : Int), .int .i64 (x : Int), .int .i64 (y : Int), .int .i64 1, .int .i64 (u : Int), .int .i64 (v : Int), .int .i64 (el up u : Int), .int .i64 (r : Int), .bool false, .int .i64 (res : Int)]) ∧ w.heap.size ≤ g ∧ Own w' g (up) ∧ Below w.heap.size w w' := by
  obtain ⟨bb, off, rfl, _, hbb, hc⟩ := hp.at_ hu
  have HL := Lib.hid hp.1
  have HP := Lib.hid hp
  have HQ := Lib.hid hq
  obtain ⟨i0, hi0, hz0, hz1, hz2⟩ := info_parts Tryd.info3
  have hu0 : (0 : Int) ≤ u := by omega
  have hu1 : (u : Int) < la := by omega
  have hv0 : (0 : Int) ≤ v := by omega
  have hv1 : (v : Int) < la := by omega
  have hw0 : (0 : Int) ≤ ww := by omega
  have hw1 : (ww : Int) < la := by omega
  clear hc hp hq
  obtain ⟨q, hq⟩ : ∃ q, el up u = q := ⟨_, rfl⟩
  rw [hq] at e ⊢
  have HE := Lib.hid hq
  have hs : ((q : Int) == (u : Int)) = false := by simp; omega
  clear e hq
  go_enter Tryd.func46, Tryd.ntmps46
  go_wp2_with (at_builtin; refine wpList_append_own _ rfl _ _ 22 rfl (w.heap.size + 2) 3 i0 (.int .i64 0) 1 8 Tryd.underlying22 hi0 hz0 hz1 hz2 rfl (by decide) (.slice (some ⟨w.heap.size + 1 + 1, 0, none⟩) 0 0) 0 [] rfl ?c0 ⟨bb, off, none⟩ la ca (intsOf up) rfl ?c1 ?c2 ?c3 ?c4 ?c5 ?c6 ?_)
  case c0 => exact made_row _ _ _
  case c1 => simp [intsOf, HL.out]
  case c2 => exact three_news _ _ _ _ HP.out hhi
  case c3 => intro u hu; simp [intsOf] at hu; obtain ⟨n, _, rfl⟩ := hu; rfl
  case c4 => unfold maxLen; omega
  case c5 => omega
  case c6 => simp
  intro v7 w1 hown hgr hnn
  obtain ⟨g, c7, rfl, hg, ho, BT, BR, hb1⟩ := after_append (t1 := 81) (t2 := 94) (cs1 := [.int .i64 (k : Int), .int .i64 (x : Int), .int .i64 (y : Int), .int .i64 7, .int .i64 (u : Int), .int .i64 (v : Int), .int .i64 (ww : Int), .int .i64 (r : Int), .bool false, .int .i64 (res : Int)]) (cs2 := [.slice none 0 0, .int .i64 0, .int .i64 0, .int .i64 0, .int .i64 0, .int .i64 0, .int .i64 0, .int .i64 0, .int .i64 0, .bool false, .int .i64 0]) hgr hown HL.out (by omega)
  clear hgr hown hnn
  have hs1 := BR.lt
  have hg1 := ho.1
  have HB1 := Lib.hid hb1
  have HO := Lib.hid ho
  obtain ⟨_, _, _, _, _, _, _, _, _, _⟩ := BT.ten
  obtain ⟨_, _, _, _, _, _, _, _, _, _⟩ := BT.tenf
  have hgw : w.heap.size ≤ g := by omega
  have n5 : w.heap.size + 1 ≠ w.heap.size := by omega
  have n6 : w.heap.size ≠ w.heap.size + 1 := by omega
  have n1 : w.heap.size ≠ g := by omega
  have n2 : w.heap.size + 1 ≠ g := by omega
  have n3 : g ≠ w.heap.size := by omega
  have n4 : g ≠ w.heap.size + 1 := by omega
  have HBR := Lib.hid BR
  have HBT := Lib.hid BT
  clear BT BR hb1 ho
  obtain ⟨cu, fu⟩ := HO.out.2 u (by rw [HL.out]; exact hu)
  rw [HE.out] at cu
  obtain ⟨_, _, _, _, _, _, _, _, _, _, _⟩ := HBR.out.eleven
  obtain ⟨_, _, _, _, _, _, _, _, _, _, _⟩ := HBR.out.elevenf
  go_wp2_with fail
  refine bodyPost_ret (v := .agg #[.slice (some ⟨g, 0, none⟩) la c7, .int .i64 (k : Int), .int .i64 (x : Int), .int .i64 (y : Int), .int .i64 1, .int .i64 (u : Int), .int .i64 (v : Int), .int .i64 (q : Int), .int .i64 (r : Int), .bool false, .int .i64 (res : Int)]) (by simp only [results, Tryd.results46]; go_simp) rfl ⟨_, _, rfl, hgw, ?_, ?_⟩
  · (repeat refine Own.setOther ?_ (by assumption) _); exact HO.out
  · (repeat refine Below.setCell ?_ (by first | assumption | exact Nat.le_refl _ | exact Nat.le_succ _) _); exact HB1.out

end Go.Proofs.YtpfcpeljfgmjgaaDoor

namespace Go.Proofs.YtpfcpeljfgmjgaaDoor
open Go.RowKit
set_option linter.unusedVariables false
set_option linter.unusedSimpArgs false

set_option maxRecDepth 100000 in
set_option maxHeartbeats 2000000 in
theorem rstep_8by (a b : Option Addr) (la ca cb : Nat) (pr : List Int) (up : List Nat) (k x y u v ww r res : Nat) (w : World) {lo hi lo2 hi2 : Nat}
    (hp : RowN lo hi w a la up) (hhi : hi ≤ w.heap.size) (hq : Row lo2 hi2 w b la pr) (hhi2 : hi2 ≤ w.heap.size) (hu : u < la) (hv : v < la) (hw : ww < la) (hr : r < la) (hm : la ≤ 1000000) (hbe : decide (bel pr u v) = true) (e : el up u = u) :
    Calls Tryd.prog 46 #[.slice a la ca, .slice b la cb, .agg #[.int .i64 (k : Int), .int .i64 (x : Int), .int .i64 (y : Int), .int .i64 8, .int .i64 (u : Int), .int .i64 (v : Int), .int .i64 (ww : Int), .int .i64 (r : Int), .bool false, .int .i64 (res : Int)]] w fun e w' =>
      ∃ g c, e = .returned (.agg #[.slice (some ⟨g, 0, none⟩) la c, .int .i64 (k : Int), .int .i64 (x : Int), .int .i64 (y : Int), .int .i64 8, .int .i64 (u : Int), .int .i64 (v : Int), .int .i64 (ww : Int), .int .i64 (r : Int), .bool true, .int .i64 1]) ∧ w.heap.size ≤ g ∧ Own w' g (up.set u v) ∧ Below w.heap.size w w' := by
  obtain ⟨bb, off, rfl, _, hbb, hc⟩ := hp.at_ hu
  have HL := Lib.hid hp.1
  have HP := Lib.hid hp
  have HQ := Lib.hid hq
  obtain ⟨i0, hi0, hz0, hz1, hz2⟩ := info_parts Tryd.info3
  have hu0 : (0 : Int) ≤ u := by omega
  have hu1 : (u : Int) < la := by omega
  have hv0 : (0 : Int) ≤ v := by omega
  have hv1 : (v : Int) < la := by omega
  have hw0 : (0 : Int) ≤ ww := by omega
  have hw1 : (ww : Int) < la := by omega
  clear hc hp hq
  have HE := Lib.hid e
  have HBE := Lib.hid hbe
  clear e hbe
  go_enter Tryd.func46, Tryd.ntmps46
  go_wp2_with (at_builtin; refine wpList_append_own _ rfl _ _ 22 rfl (w.heap.size + 2) 3 i0 (.int .i64 0) 1 8 Tryd.underlying22 hi0 hz0 hz1 hz2 rfl (by decide) (.slice (some ⟨w.heap.size + 1 + 1, 0, none⟩) 0 0) 0 [] rfl ?c0 ⟨bb, off, none⟩ la ca (intsOf up) rfl ?c1 ?c2 ?c3 ?c4 ?c5 ?c6 ?_)
  case c0 => exact made_row _ _ _
  case c1 => simp [intsOf, HL.out]
  case c2 => exact three_news _ _ _ _ HP.out hhi
  case c3 => intro u hu; simp [intsOf] at hu; obtain ⟨n, _, rfl⟩ := hu; rfl
  case c4 => unfold maxLen; omega
  case c5 => omega
  case c6 => simp
  intro v7 w1 hown hgr hnn
  obtain ⟨g, c7, rfl, hg, ho, BT, BR, hb1⟩ := after_append (t1 := 81) (t2 := 94) (cs1 := [.int .i64 (k : Int), .int .i64 (x : Int), .int .i64 (y : Int), .int .i64 8, .int .i64 (u : Int), .int .i64 (v : Int), .int .i64 (ww : Int), .int .i64 (r : Int), .bool false, .int .i64 (res : Int)]) (cs2 := [.slice none 0 0, .int .i64 0, .int .i64 0, .int .i64 0, .int .i64 0, .int .i64 0, .int .i64 0, .int .i64 0, .int .i64 0, .bool false, .int .i64 0]) hgr hown HL.out (by omega)
  clear hgr hown hnn
  have hs1 := BR.lt
  have hg1 := ho.1
  have HB1 := Lib.hid hb1
  have HO := Lib.hid ho
  obtain ⟨_, _, _, _, _, _, _, _, _, _⟩ := BT.ten
  obtain ⟨_, _, _, _, _, _, _, _, _, _⟩ := BT.tenf
  have hgw : w.heap.size ≤ g := by omega
  have n5 : w.heap.size + 1 ≠ w.heap.size := by omega
  have n6 : w.heap.size ≠ w.heap.size + 1 := by omega
  have n1 : w.heap.size ≠ g := by omega
  have n2 : w.heap.size + 1 ≠ g := by omega
  have n3 : g ≠ w.heap.size := by omega
  have n4 : g ≠ w.heap.size + 1 := by omega
  have HBR := Lib.hid BR
  have HBT := Lib.hid BT
  clear BT BR hb1 ho
  go_wp2_with fail
  go_quiet (fail)
  go_wp2_with fail
  refine (rbelow_v _ _ _ pr u v _ ((HQ.out.below HB1.out hhi2).drewN' _) hu hv hm true HBE.out).mono ?_
  rintro e w' ⟨rfl, m, rfl⟩
  go_wp2_with fail
  refine (swap_yes g la c7 up u u v _ (HO.out.drewN _) HL.out hu HE.out hm).mono ?_
  rintro e w' ⟨rfl, rfl⟩
  go_wp2_with fail
  refine (rdone_lit _ _ _ _ _ _ _ _ _ _ _ _).mono ?_
  rintro e w2 ⟨rfl, hb2⟩
  have hs2 := hb2.size
  simp only [World.size_setCell, size_drewN'] at hs2
  have HO2 : Hid (Own w2 g (up.set u v)) := by refine Own.below ?_ hb2 (by simp; omega); (repeat refine Own.setOther ?_ (by assumption) _); exact (HO.out.drewN _).put (by rw [HL.out]; exact hu)
  have HB2 : Hid (Below w.heap.size w w2) := by refine Below.trans ?_ (hb2.mono (by simp; omega)); (repeat refine Below.setCell ?_ (by first | assumption | exact Nat.le_refl _ | exact Nat.le_succ _) _); exact below_drewN' HB1.out _
  have HR2 : Hid (Box w2 (w.heap.size + 1) 94 [.slice none 0 0, .int .i64 0, .int .i64 0, .int .i64 0, .int .i64 0, .int .i64 0, .int .i64 0, .int .i64 0, .int .i64 0, .bool false, .int .i64 0]) := by refine Box.below ?_ hb2; (repeat refine Box.setOther ?_ (by assumption) _); exact HBR.out
  obtain ⟨_, _, _, _, _, _, _, _, _, _, _⟩ := HR2.out.eleven
  obtain ⟨_, _, _, _, _, _, _, _, _, _, _⟩ := HR2.out.elevenf
  have hlt2 : w.heap.size + 1 < w2.heap.size := by omega
  clear hb2 hs2
  go_wp2_with fail
  refine bodyPost_ret (v := .agg #[.slice (some ⟨g, 0, none⟩) la c7, .int .i64 (k : Int), .int .i64 (x : Int), .int .i64 (y : Int), .int .i64 8, .int .i64 (u : Int), .int .i64 (v : Int), .int .i64 (ww : Int), .int .i64 (r : Int), .bool true, .int .i64 1]) (by simp only [results, Tryd.results46]; go_simp) rfl ⟨_, _, rfl, hgw, ?_, ?_⟩
  · (repeat refine Own.setOther ?_ (by assumption) _); exact HO2.out
  · (repeat refine Below.setCell ?_ (by first | assumption | exact Nat.le_refl _ | exact Nat.le_succ _) _); exact HB2.out

set_option maxRecDepth 100000 in
set_option maxHeartbeats 2000000 in
theorem rstep_8bn (a b : Option Addr) (la ca cb : Nat) (pr : List Int) (up : List Nat) (k x y u v ww r res : Nat) (w : World) {lo hi lo2 hi2 : Nat}
    (hp : RowN lo hi w a la up) (hhi : hi ≤ w.heap.size) (hq : Row lo2 hi2 w b la pr) (hhi2 : hi2 ≤ w.heap.size) (hu : u < la) (hv : v < la) (hw : ww < la) (hr : r < la) (hm : la ≤ 1000000) (hbe : decide (bel pr u v) = true) (e : el up u ≠ u) :
    Calls Tryd.prog 46 #[.slice a la ca, .slice b la cb, .agg #[.int .i64 (k : Int), .int .i64 (x : Int), .int .i64 (y : Int), .int .i64 8, .int .i64 (u : Int), .int .i64 (v : Int), .int .i64 (ww : Int), .int .i64 (r : Int), .bool false, .int .i64 (res : Int)]] w fun e w' =>
      ∃ g c, e = .returned (.agg #[.slice (some ⟨g, 0, none⟩) la c, .int .i64 (k : Int), .int .i64 (x : Int), .int .i64 (y : Int), .int .i64 1, .int .i64 (u : Int), .int .i64 (v : Int), .int .i64 (ww : Int), .int .i64 (r : Int), .bool false, .int .i64 (res : Int)]) ∧ w.heap.size ≤ g ∧ Own w' g (up) ∧ Below w.heap.size w w' := by
  obtain ⟨bb, off, rfl, _, hbb, hc⟩ := hp.at_ hu
  have HL := Lib.hid hp.1
  have HP := Lib.hid hp
  have HQ := Lib.hid hq
  obtain ⟨i0, hi0, hz0, hz1, hz2⟩ := info_parts Tryd.info3
  have hu0 : (0 : Int) ≤ u := by omega
  have hu1 : (u : Int) < la := by omega
  have hv0 : (0 : Int) ≤ v := by omega
  have hv1 : (v : Int) < la := by omega
  have hw0 : (0 : Int) ≤ ww := by omega
  have hw1 : (ww : Int) < la := by omega
  clear hc hp hq
  have HE := Lib.hid e
  have HBE := Lib.hid hbe
  clear e hbe
  go_enter Tryd.func46, Tryd.ntmps46
  go_wp2_with (at_builtin; refine wpList_append_own _ rfl _ _ 22 rfl (w.heap.size + 2) 3 i0 (.int .i64 0) 1 8 Tryd.underlying22 hi0 hz0 hz1 hz2 rfl (by decide) (.slice (some ⟨w.heap.size + 1 + 1, 0, none⟩) 0 0) 0 [] rfl ?c0 ⟨bb, off, none⟩ la ca (intsOf up) rfl ?c1 ?c2 ?c3 ?c4 ?c5 ?c6 ?_)
  case c0 => exact made_row _ _ _
  case c1 => simp [intsOf, HL.out]
  case c2 => exact three_news _ _ _ _ HP.out hhi
  case c3 => intro u hu; simp [intsOf] at hu; obtain ⟨n, _, rfl⟩ := hu; rfl
  case c4 => unfold maxLen; omega
  case c5 => omega
  case c6 => simp
  intro v7 w1 hown hgr hnn
  obtain ⟨g, c7, rfl, hg, ho, BT, BR, hb1⟩ := after_append (t1 := 81) (t2 := 94) (cs1 := [.int .i64 (k : Int), .int .i64 (x : Int), .int .i64 (y : Int), .int .i64 8, .int .i64 (u : Int), .int .i64 (v : Int), .int .i64 (ww : Int), .int .i64 (r : Int), .bool false, .int .i64 (res : Int)]) (cs2 := [.slice none 0 0, .int .i64 0, .int .i64 0, .int .i64 0, .int .i64 0, .int .i64 0, .int .i64 0, .int .i64 0, .int .i64 0, .bool false, .int .i64 0]) hgr hown HL.out (by omega)
  clear hgr hown hnn
  have hs1 := BR.lt
  have hg1 := ho.1
  have HB1 := Lib.hid hb1
  have HO := Lib.hid ho
  obtain ⟨_, _, _, _, _, _, _, _, _, _⟩ := BT.ten
  obtain ⟨_, _, _, _, _, _, _, _, _, _⟩ := BT.tenf
  have hgw : w.heap.size ≤ g := by omega
  have n5 : w.heap.size + 1 ≠ w.heap.size := by omega
  have n6 : w.heap.size ≠ w.heap.size + 1 := by omega
  have n1 : w.heap.size ≠ g := by omega
  have n2 : w.heap.size + 1 ≠ g := by omega
  have n3 : g ≠ w.heap.size := by omega
  have n4 : g ≠ w.heap.size + 1 := by omega
  have HBR := Lib.hid BR
  have HBT := Lib.hid BT
  clear BT BR hb1 ho
  obtain ⟨_, _, _, _, _, _, _, _, _, _, _⟩ := HBR.out.eleven
  obtain ⟨_, _, _, _, _, _, _, _, _, _, _⟩ := HBR.out.elevenf
  go_wp2_with fail
  go_quiet (fail)
  go_wp2_with fail
  refine (rbelow_v _ _ _ pr u v _ ((HQ.out.below HB1.out hhi2).drewN' _) hu hv hm true HBE.out).mono ?_
  rintro e w' ⟨rfl, m, rfl⟩
  go_wp2_with fail
  refine (swap_no g la c7 up u u v _ (HO.out.drewN _) HL.out hu HE.out hm).mono ?_
  rintro e w' ⟨rfl, rfl⟩
  go_wp2_with fail
  refine bodyPost_ret (v := .agg #[.slice (some ⟨g, 0, none⟩) la c7, .int .i64 (k : Int), .int .i64 (x : Int), .int .i64 (y : Int), .int .i64 1, .int .i64 (u : Int), .int .i64 (v : Int), .int .i64 (ww : Int), .int .i64 (r : Int), .bool false, .int .i64 (res : Int)]) (by simp only [results, Tryd.results46]; go_simp) rfl ⟨_, _, rfl, hgw, ?_, ?_⟩
  · (repeat refine Own.setOther ?_ (by assumption) _); exact HO.out.drewN _
  · (repeat refine Below.setCell ?_ (by first | assumption | exact Nat.le_refl _ | exact Nat.le_succ _) _); exact below_drewN' HB1.out _

set_option maxRecDepth 100000 in
set_option maxHeartbeats 2000000 in
theorem rstep_8ay (a b : Option Addr) (la ca cb : Nat) (pr : List Int) (up : List Nat) (k x y u v ww r res : Nat) (w : World) {lo hi lo2 hi2 : Nat}
    (hp : RowN lo hi w a la up) (hhi : hi ≤ w.heap.size) (hq : Row lo2 hi2 w b la pr) (hhi2 : hi2 ≤ w.heap.size) (hu : u < la) (hv : v < la) (hw : ww < la) (hr : r < la) (hm : la ≤ 1000000) (hbe : decide (bel pr u v) = false) (e : el up v = v) :
    Calls Tryd.prog 46 #[.slice a la ca, .slice b la cb, .agg #[.int .i64 (k : Int), .int .i64 (x : Int), .int .i64 (y : Int), .int .i64 8, .int .i64 (u : Int), .int .i64 (v : Int), .int .i64 (ww : Int), .int .i64 (r : Int), .bool false, .int .i64 (res : Int)]] w fun e w' =>
      ∃ g c, e = .returned (.agg #[.slice (some ⟨g, 0, none⟩) la c, .int .i64 (k : Int), .int .i64 (x : Int), .int .i64 (y : Int), .int .i64 8, .int .i64 (u : Int), .int .i64 (v : Int), .int .i64 (ww : Int), .int .i64 (r : Int), .bool true, .int .i64 1]) ∧ w.heap.size ≤ g ∧ Own w' g (up.set v u) ∧ Below w.heap.size w w' := by
  obtain ⟨bb, off, rfl, _, hbb, hc⟩ := hp.at_ hu
  have HL := Lib.hid hp.1
  have HP := Lib.hid hp
  have HQ := Lib.hid hq
  obtain ⟨i0, hi0, hz0, hz1, hz2⟩ := info_parts Tryd.info3
  have hu0 : (0 : Int) ≤ u := by omega
  have hu1 : (u : Int) < la := by omega
  have hv0 : (0 : Int) ≤ v := by omega
  have hv1 : (v : Int) < la := by omega
  have hw0 : (0 : Int) ≤ ww := by omega
  have hw1 : (ww : Int) < la := by omega
  clear hc hp hq
  have HE := Lib.hid e
  have HBE := Lib.hid hbe
  clear e hbe
  go_enter Tryd.func46, Tryd.ntmps46
  go_wp2_with (at_builtin; refine wpList_append_own _ rfl _ _ 22 rfl (w.heap.size + 2) 3 i0 (.int .i64 0) 1 8 Tryd.underlying22 hi0 hz0 hz1 hz2 rfl (by decide) (.slice (some ⟨w.heap.size + 1 + 1, 0, none⟩) 0 0) 0 [] rfl ?c0 ⟨bb, off, none⟩ la ca (intsOf up) rfl ?c1 ?c2 ?c3 ?c4 ?c5 ?c6 ?_)
  case c0 => exact made_row _ _ _
  case c1 => simp [intsOf, HL.out]
  case c2 => exact three_news _ _ _ _ HP.out hhi
  case c3 => intro u hu; simp [intsOf] at hu; obtain ⟨n, _, rfl⟩ := hu; rfl
  case c4 => unfold maxLen; omega
  case c5 => omega
  case c6 => simp
  intro v7 w1 hown hgr hnn
  obtain ⟨g, c7, rfl, hg, ho, BT, BR, hb1⟩ := after_append (t1 := 81) (t2 := 94) (cs1 := [.int .i64 (k : Int), .int .i64 (x : Int), .int .i64 (y : Int), .int .i64 8, .int .i64 (u : Int), .int .i64 (v : Int), .int .i64 (ww : Int), .int .i64 (r : Int), .bool false, .int .i64 (res : Int)]) (cs2 := [.slice none 0 0, .int .i64 0, .int .i64 0, .int .i64 0, .int .i64 0, .int .i64 0, .int .i64 0, .int .i64 0, .int .i64 0, .bool false, .int .i64 0]) hgr hown HL.out (by omega)
  clear hgr hown hnn
  have hs1 := BR.lt
  have hg1 := ho.1
  have HB1 := Lib.hid hb1
  have HO := Lib.hid ho
  obtain ⟨_, _, _, _, _, _, _, _, _, _⟩ := BT.ten
  obtain ⟨_, _, _, _, _, _, _, _, _, _⟩ := BT.tenf
  have hgw : w.heap.size ≤ g := by omega
  have n5 : w.heap.size + 1 ≠ w.heap.size := by omega
  have n6 : w.heap.size ≠ w.heap.size + 1 := by omega
  have n1 : w.heap.size ≠ g := by omega
  have n2 : w.heap.size + 1 ≠ g := by omega
  have n3 : g ≠ w.heap.size := by omega
  have n4 : g ≠ w.heap.size + 1 := by omega
  have HBR := Lib.hid BR
  have HBT := Lib.hid BT
  clear BT BR hb1 ho
  go_wp2_with fail
  go_quiet (fail)
  go_wp2_with fail
  refine (rbelow_v _ _ _ pr u v _ ((HQ.out.below HB1.out hhi2).drewN' _) hu hv hm false HBE.out).mono ?_
  rintro e w' ⟨rfl, m, rfl⟩
  go_wp2_with fail
  refine (swap_yes g la c7 up v v u _ (HO.out.drewN _) HL.out hv HE.out hm).mono ?_
  rintro e w' ⟨rfl, rfl⟩
  go_wp2_with fail
  refine (rdone_lit _ _ _ _ _ _ _ _ _ _ _ _).mono ?_
  rintro e w2 ⟨rfl, hb2⟩
  have hs2 := hb2.size
  simp only [World.size_setCell, size_drewN'] at hs2
  have HO2 : Hid (Own w2 g (up.set v u)) := by refine Own.below ?_ hb2 (by simp; omega); (repeat refine Own.setOther ?_ (by assumption) _); exact (HO.out.drewN _).put (by rw [HL.out]; exact hv)
  have HB2 : Hid (Below w.heap.size w w2) := by refine Below.trans ?_ (hb2.mono (by simp; omega)); (repeat refine Below.setCell ?_ (by first | assumption | exact Nat.le_refl _ | exact Nat.le_succ _) _); exact below_drewN' HB1.out _
  have HR2 : Hid (Box w2 (w.heap.size + 1) 94 [.slice none 0 0, .int .i64 0, .int .i64 0, .int .i64 0, .int .i64 0, .int .i64 0, .int .i64 0, .int .i64 0, .int .i64 0, .bool false, .int .i64 0]) := by refine Box.below ?_ hb2; (repeat refine Box.setOther ?_ (by assumption) _); exact HBR.out
  obtain ⟨_, _, _, _, _, _, _, _, _, _, _⟩ := HR2.out.eleven
  obtain ⟨_, _, _, _, _, _, _, _, _, _, _⟩ := HR2.out.elevenf
  have hlt2 : w.heap.size + 1 < w2.heap.size := by omega
  clear hb2 hs2
  go_wp2_with fail
  refine bodyPost_ret (v := .agg #[.slice (some ⟨g, 0, none⟩) la c7, .int .i64 (k : Int), .int .i64 (x : Int), .int .i64 (y : Int), .int .i64 8, .int .i64 (u : Int), .int .i64 (v : Int), .int .i64 (ww : Int), .int .i64 (r : Int), .bool true, .int .i64 1]) (by simp only [results, Tryd.results46]; go_simp) rfl ⟨_, _, rfl, hgw, ?_, ?_⟩
  · (repeat refine Own.setOther ?_ (by assumption) _); exact HO2.out
  · (repeat refine Below.setCell ?_ (by first | assumption | exact Nat.le_refl _ | exact Nat.le_succ _) _); exact HB2.out

set_option maxRecDepth 100000 in
set_option maxHeartbeats 2000000 in
theorem rstep_8an (a b : Option Addr) (la ca cb : Nat) (pr : List Int) (up : List Nat) (k x y u v ww r res : Nat) (w : World) {lo hi lo2 hi2 : Nat}
    (hp : RowN lo hi w a la up) (hhi : hi ≤ w.heap.size) (hq : Row lo2 hi2 w b la pr) (hhi2 : hi2 ≤ w.heap.size) (hu : u < la) (hv : v < la) (hw : ww < la) (hr : r < la) (hm : la ≤ 1000000) (hbe : decide (bel pr u v) = false) (e : el up v ≠ v) :
    Calls Tryd.prog 46 #[.slice a la ca, .slice b la cb, .agg #[.int .i64 (k : Int), .int .i64 (x : Int), .int .i64 (y : Int), .int .i64 8, .int .i64 (u : Int), .int .i64 (v : Int), .int .i64 (ww : Int), .int .i64 (r : Int), .bool false, .int .i64 (res : Int)]] w fun e w' =>
      ∃ g c, e = .returned (.agg #[.slice (some ⟨g, 0, none⟩) la c, .int .i64 (k : Int), .int .i64 (x : Int), .int .i64 (y : Int), .int .i64 1, .int .i64 (u : Int), .int .i64 (v : Int), .int .i64 (ww : Int), .int .i64 (r : Int), .bool false, .int .i64 (res : Int)]) ∧ w.heap.size ≤ g ∧ Own w' g (up) ∧ Below w.heap.size w w' := by
  obtain ⟨bb, off, rfl, _, hbb, hc⟩ := hp.at_ hu
  have HL := Lib.hid hp.1
  have HP := Lib.hid hp
  have HQ := Lib.hid hq
  obtain ⟨i0, hi0, hz0, hz1, hz2⟩ := info_parts Tryd.info3
  have hu0 : (0 : Int) ≤ u := by omega
  have hu1 : (u : Int) < la := by omega
  have hv0 : (0 : Int) ≤ v := by omega
  have hv1 : (v : Int) < la := by omega
  have hw0 : (0 : Int) ≤ ww := by omega
  have hw1 : (ww : Int) < la := by omega
  clear hc hp hq
  have HE := Lib.hid e
  have HBE := Lib.hid hbe
  clear e hbe
  go_enter Tryd.func46, Tryd.ntmps46
  go_wp2_with (at_builtin; refine wpList_append_own _ rfl _ _ 22 rfl (w.heap.size + 2) 3 i0 (.int .i64 0) 1 8 Tryd.underlying22 hi0 hz0 hz1 hz2 rfl (by decide) (.slice (some ⟨w.heap.size + 1 + 1, 0, none⟩) 0 0) 0 [] rfl ?c0 ⟨bb, off, none⟩ la ca (intsOf up) rfl ?c1 ?c2 ?c3 ?c4 ?c5 ?c6 ?_)
  case c0 => exact made_row _ _ _
  case c1 => simp [intsOf, HL.out]
  case c2 => exact three_news _ _ _ _ HP.out hhi
  case c3 => intro u hu; simp [intsOf] at hu; obtain ⟨n, _, rfl⟩ := hu; rfl
  case c4 => unfold maxLen; omega
  case c5 => omega
  case c6 => simp
  intro v7 w1 hown hgr hnn
  obtain ⟨g, c7, rfl, hg, ho, BT, BR, hb1⟩ := after_append (t1 := 81) (t2 := 94) (cs1 := [.int .i64 (k : Int), .int .i64 (x : Int), .int .i64 (y : Int), .int .i64 8, .int .i64 (u : Int), .int .i64 (v : Int), .int .i64 (ww : Int), .int .i64 (r : Int), .bool false, .int .i64 (res : Int)]) (cs2 := [.slice none 0 0, .int .i64 0, .int .i64 0, .int .i64 0, .int .i64 0, .int .i64 0, .int .i64 0, .int .i64 0, .int .i64 0, .bool false, .int .i64 0]) hgr hown HL.out (by omega)
  clear hgr hown hnn
  have hs1 := BR.lt
  have hg1 := ho.1
  have HB1 := Lib.hid hb1
  have HO := Lib.hid ho
  obtain ⟨_, _, _, _, _, _, _, _, _, _⟩ := BT.ten
  obtain ⟨_, _, _, _, _, _, _, _, _, _⟩ := BT.tenf
  have hgw : w.heap.size ≤ g := by omega
  have n5 : w.heap.size + 1 ≠ w.heap.size := by omega
  have n6 : w.heap.size ≠ w.heap.size + 1 := by omega
  have n1 : w.heap.size ≠ g := by omega
  have n2 : w.heap.size + 1 ≠ g := by omega
  have n3 : g ≠ w.heap.size := by omega
  have n4 : g ≠ w.heap.size + 1 := by omega
  have HBR := Lib.hid BR
  have HBT := Lib.hid BT
  clear BT BR hb1 ho
  obtain ⟨_, _, _, _, _, _, _, _, _, _, _⟩ := HBR.out.eleven
  obtain ⟨_, _, _, _, _, _, _, _, _, _, _⟩ := HBR.out.elevenf
  go_wp2_with fail
  go_quiet (fail)
  go_wp2_with fail
  refine (rbelow_v _ _ _ pr u v _ ((HQ.out.below HB1.out hhi2).drewN' _) hu hv hm false HBE.out).mono ?_
  rintro e w' ⟨rfl, m, rfl⟩
  go_wp2_with fail
  refine (swap_no g la c7 up v v u _ (HO.out.drewN _) HL.out hv HE.out hm).mono ?_
  rintro e w' ⟨rfl, rfl⟩
  go_wp2_with fail
  refine bodyPost_ret (v := .agg #[.slice (some ⟨g, 0, none⟩) la c7, .int .i64 (k : Int), .int .i64 (x : Int), .int .i64 (y : Int), .int .i64 1, .int .i64 (u : Int), .int .i64 (v : Int), .int .i64 (ww : Int), .int .i64 (r : Int), .bool false, .int .i64 (res : Int)]) (by simp only [results, Tryd.results46]; go_simp) rfl ⟨_, _, rfl, hgw, ?_, ?_⟩
  · (repeat refine Own.setOther ?_ (by assumption) _); exact HO.out.drewN _
  · (repeat refine Below.setCell ?_ (by first | assumption | exact Nat.le_refl _ | exact Nat.le_succ _) _); exact below_drewN' HB1.out _

end Go.Proofs.YtpfcpeljfgmjgaaDoor
