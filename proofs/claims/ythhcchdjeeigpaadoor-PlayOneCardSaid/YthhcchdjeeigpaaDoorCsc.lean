/- Contracts of Step, one way through it each. -/
import Derived.Test.YthhcchdjeeigpaaDoorCsw
import Derived.Test.YthhcchdjeeigpaaDoorCfinda
import Derived.Test.YthhcchdjeeigpaaDoorCfindb
import Derived.Test.YthhcchdjeeigpaaDoorCfindc
import Derived.Test.YthhcchdjeeigpaaDoorCagain
import Derived.Test.YthhcchdjeeigpaaDoorCuni
import Derived.RegionTactic
import Derived.BigRegion
import Derived.Deep.CutRange
namespace Go.Proofs.YthhcchdjeeigpaaDoor
open Go.RowKit
set_option linter.unusedVariables false
set_option linter.unusedSimpArgs false

set_option maxRecDepth 100000 in
set_option maxHeartbeats 2000000 in
theorem step_4n (a b : Option Addr) (la ca cb : Nat) (pr : List Int) (up : List Nat) (k x y u v ww r res : Nat) (w : World) {lo hi lo2 hi2 : Nat}
    (hp : RowN lo hi w a la up) (hhi : hi ≤ w.heap.size) (hq : Row lo2 hi2 w b la pr) (hhi2 : hi2 ≤ w.heap.size) (hu : u < la) (hv : v < la) (hw : ww < la) (hr : r < la) (hm : la ≤ 1000000) (e : el up v ≠ v) :
    Calls Tryd.prog 60 #[.slice a la ca, .slice b la cb, .agg #[.int .i64 (k : Int), .int .i64 (x : Int), .int .i64 (y : Int), .int .i64 4, .int .i64 (u : Int), .int .i64 (v : Int), .int .i64 (ww : Int), .int .i64 (r : Int), .bool false, .int .i64 (res : Int)]] w fun e w' =>
      ∃ g c, e = .returned (.tuple #[.slice (some ⟨g, 0, none⟩) la c, .agg #[.int .i64 (k : Int), .int .i64 (x : Int), .int .i64 (y : Int), .int .i64 5, .int .i64 (u : Int), .int .i64 (v : Int), .int .i64 (el up v : Int), .int .i64 (r : Int), .bool false, .int .i64 (res : Int)]]) ∧ w.heap.size ≤ g ∧ Own w' g (up) ∧ Below w.heap.size w w' := by
  have HL := Lib.hid hp.1
  have HP := Lib.hid hp
  have HQ := Lib.hid hq
  clear hp hq
  obtain ⟨q, hq⟩ : ∃ q, el up v = q := ⟨_, rfl⟩
  have HE := Lib.hid e
  rw [hq]
  have HQE := Lib.hid hq
  clear e hq
  go_enter Tryd.func60, Tryd.ntmps60
  go_wp2_with fail
  refine (clone_own _ _ _ up _ ((HP.out.alloc hhi _).alloc (by simp; omega) _) (by simp; omega) (by omega) hm).mono ?_
  rintro e w1 ⟨g, c7, rfl, hg, ho, hb1⟩
  have BT := ((Box.new w 87 [.int .i64 (k : Int), .int .i64 (x : Int), .int .i64 (y : Int), .int .i64 4, .int .i64 (u : Int), .int .i64 (v : Int), .int .i64 (ww : Int), .int .i64 (r : Int), .bool false, .int .i64 (res : Int)]).alloc (.cells #[.int .i64 0, .int .i64 0, .int .i64 0, .int .i64 0, .int .i64 0, .int .i64 0, .int .i64 0, .int .i64 0, .bool false, .int .i64 0] 87)).below hb1
  have BR := (Box.new (w.alloc (.cells #[.int .i64 (k : Int), .int .i64 (x : Int), .int .i64 (y : Int), .int .i64 4, .int .i64 (u : Int), .int .i64 (v : Int), .int .i64 (ww : Int), .int .i64 (r : Int), .bool false, .int .i64 (res : Int)] 87)) 87 [.int .i64 0, .int .i64 0, .int .i64 0, .int .i64 0, .int .i64 0, .int .i64 0, .int .i64 0, .int .i64 0, .bool false, .int .i64 0]).below hb1
  rw [World.size_alloc] at BR
  rw [World.size_alloc, World.size_alloc] at hg
  have hs1 := BR.lt
  have hg1 := ho.1
  have HB1 : Hid (Below w.heap.size w w1) := (below_two _ _ _).trans (hb1.mono (by simp; omega))
  have HO := Lib.hid ho
  have hgw : w.heap.size ≤ g := by omega
  have n1 : w.heap.size ≠ g := by omega
  have n2 : w.heap.size + 1 ≠ g := by omega
  have n3 : g ≠ w.heap.size := by omega
  have n4 : g ≠ w.heap.size + 1 := by omega
  have n5 : w.heap.size + 1 ≠ w.heap.size := by omega
  have n6 : w.heap.size ≠ w.heap.size + 1 := by omega
  have HT := Lib.hid BT
  have HR := Lib.hid BR
  obtain ⟨_, _, _, _, _, _, _, _, _, _⟩ := BT.ten
  obtain ⟨_, _, _, _, _, _, _, _, _, _⟩ := BT.tenf
  clear BT BR hb1 ho hg
  go_wp2_with fail
  refine (find_40n g la c7 w.heap.size up k x y u v ww r res _ HO.out HL.out HT.out n3 hu hv hw hr hm HE.out).mono ?_
  rw [HQE.out]
  rintro e w2 ⟨rfl, ho2, BT2, ht2⟩
  have hs2 := ht2.size
  have HO2 := Lib.hid ho2
  have HT2 := Lib.hid BT2
  have HR2 := Lib.hid (ht2.box HR.out n2 n5)
  have HB2 : Hid (Below w.heap.size w w2) := HB1.out.trans (ht2.below (by omega) hgw (Nat.le_refl _))
  have hg2 := ho2.1
  have hs3 : w.heap.size + 1 < w2.heap.size := by omega
  obtain ⟨_, _, _, _, _, _, _, _, _, _⟩ := BT2.ten
  obtain ⟨_, _, _, _, _, _, _, _, _, _⟩ := BT2.tenf
  clear ho2 BT2 ht2
  obtain ⟨_, _, _, _, _, _, _, _, _, _⟩ := HR2.out.ten
  obtain ⟨_, _, _, _, _, _, _, _, _, _⟩ := HR2.out.tenf
  go_wp2_with fail
  go_region
  go_wp2_with fail
  refine bodyPost_ret (v := .tuple #[.slice (some ⟨g, 0, none⟩) la c7, .agg #[.int .i64 (k : Int), .int .i64 (x : Int), .int .i64 (y : Int), .int .i64 5, .int .i64 (u : Int), .int .i64 (v : Int), .int .i64 (q : Int), .int .i64 (r : Int), .bool false, .int .i64 (res : Int)]]) (by simp only [results, Tryd.results60]; go_simp) rfl ⟨_, _, rfl, hgw, ?_, ?_⟩
  · refine Own.drew1 ?_; (repeat refine Own.setOther ?_ (by assumption) _); exact HO2.out
  · refine Below.drew ?_; (repeat refine Below.setCell ?_ (by first | assumption | exact Nat.le_refl _ | exact Nat.le_succ _) _); exact HB2.out

set_option maxRecDepth 100000 in
set_option maxHeartbeats 2000000 in
theorem step_5r (a b : Option Addr) (la ca cb : Nat) (pr : List Int) (up : List Nat) (k x y u v ww r res : Nat) (w : World) (st' : Int) (dn' : Bool) (res' : Int) {lo hi lo2 hi2 : Nat}
    (hp : RowN lo hi w a la up) (hhi : hi ≤ w.heap.size) (hq : Row lo2 hi2 w b la pr) (hhi2 : hi2 ≤ w.heap.size) (hu : u < la) (hv : v < la) (hw : ww < la) (hr : r < la) (hm : la ≤ 1000000) (e : el up ww = ww) (h : Snd k u ww 5 false res st' dn' res') :
    Calls Tryd.prog 60 #[.slice a la ca, .slice b la cb, .agg #[.int .i64 (k : Int), .int .i64 (x : Int), .int .i64 (y : Int), .int .i64 5, .int .i64 (u : Int), .int .i64 (v : Int), .int .i64 (ww : Int), .int .i64 (r : Int), .bool false, .int .i64 (res : Int)]] w fun e w' =>
      ∃ g c, e = .returned (.tuple #[.slice (some ⟨g, 0, none⟩) la c, .agg #[.int .i64 (k : Int), .int .i64 (x : Int), .int .i64 (y : Int), .int .i64 st', .int .i64 (u : Int), .int .i64 (ww : Int), .int .i64 (ww : Int), .int .i64 (ww : Int), .bool dn', .int .i64 res']]) ∧ w.heap.size ≤ g ∧ Own w' g (up) ∧ Below w.heap.size w w' := by
  have HL := Lib.hid hp.1
  have HP := Lib.hid hp
  have HQ := Lib.hid hq
  clear hp hq
  have HE := Lib.hid e
  have HF := Lib.hid h
  clear e h
  go_enter Tryd.func60, Tryd.ntmps60
  go_wp2_with fail
  refine (clone_own _ _ _ up _ ((HP.out.alloc hhi _).alloc (by simp; omega) _) (by simp; omega) (by omega) hm).mono ?_
  rintro e w1 ⟨g, c7, rfl, hg, ho, hb1⟩
  have BT := ((Box.new w 87 [.int .i64 (k : Int), .int .i64 (x : Int), .int .i64 (y : Int), .int .i64 5, .int .i64 (u : Int), .int .i64 (v : Int), .int .i64 (ww : Int), .int .i64 (r : Int), .bool false, .int .i64 (res : Int)]).alloc (.cells #[.int .i64 0, .int .i64 0, .int .i64 0, .int .i64 0, .int .i64 0, .int .i64 0, .int .i64 0, .int .i64 0, .bool false, .int .i64 0] 87)).below hb1
  have BR := (Box.new (w.alloc (.cells #[.int .i64 (k : Int), .int .i64 (x : Int), .int .i64 (y : Int), .int .i64 5, .int .i64 (u : Int), .int .i64 (v : Int), .int .i64 (ww : Int), .int .i64 (r : Int), .bool false, .int .i64 (res : Int)] 87)) 87 [.int .i64 0, .int .i64 0, .int .i64 0, .int .i64 0, .int .i64 0, .int .i64 0, .int .i64 0, .int .i64 0, .bool false, .int .i64 0]).below hb1
  rw [World.size_alloc] at BR
  rw [World.size_alloc, World.size_alloc] at hg
  have hs1 := BR.lt
  have hg1 := ho.1
  have HB1 : Hid (Below w.heap.size w w1) := (below_two _ _ _).trans (hb1.mono (by simp; omega))
  have HO := Lib.hid ho
  have hgw : w.heap.size ≤ g := by omega
  have n1 : w.heap.size ≠ g := by omega
  have n2 : w.heap.size + 1 ≠ g := by omega
  have n3 : g ≠ w.heap.size := by omega
  have n4 : g ≠ w.heap.size + 1 := by omega
  have n5 : w.heap.size + 1 ≠ w.heap.size := by omega
  have n6 : w.heap.size ≠ w.heap.size + 1 := by omega
  have HT := Lib.hid BT
  have HR := Lib.hid BR
  obtain ⟨_, _, _, _, _, _, _, _, _, _⟩ := BT.ten
  obtain ⟨_, _, _, _, _, _, _, _, _, _⟩ := BT.tenf
  clear BT BR hb1 ho hg
  go_wp2_with fail
  refine (find_41y g la c7 w.heap.size up k x y u v ww r res _ HO.out HL.out HT.out n3 hu hv hw hr hm HE.out).mono ?_
  rintro e w2 ⟨rfl, ho2, BT2, ht2⟩
  have hs2 := ht2.size
  have HO2 := Lib.hid ho2
  have HT2 := Lib.hid BT2
  have HR2 := Lib.hid (ht2.box HR.out n2 n5)
  have HB2 : Hid (Below w.heap.size w w2) := HB1.out.trans (ht2.below (by omega) hgw (Nat.le_refl _))
  have hg2 := ho2.1
  have hs3 : w.heap.size + 1 < w2.heap.size := by omega
  obtain ⟨_, _, _, _, _, _, _, _, _, _⟩ := BT2.ten
  obtain ⟨_, _, _, _, _, _, _, _, _, _⟩ := BT2.tenf
  clear ho2 BT2 ht2
  have H1 : Hid (∀ q0 ∈ ([.int .i64 (k : Int), .int .i64 (x : Int), .int .i64 (y : Int), .int .i64 st', .int .i64 (u : Int), .int .i64 (ww : Int), .int .i64 (ww : Int), .int .i64 (ww : Int), .bool dn', .int .i64 res'] : List Value), q0.oneCell' = true) := by intro q0 hv; simp at hv; rcases hv with rfl | rfl | rfl | rfl | rfl | rfl | rfl | rfl | rfl | rfl <;> rfl
  go_wp2_with fail
  refine (second_v _ _ _ _ _ _ _ _ _ _ st' dn' res' _ HF.out).mono ?_
  rintro e w3 ⟨rfl, hb3⟩
  have hs4 := hb3.size
  have HT3 := Lib.hid (HT2.out.below hb3)
  have HR3 := Lib.hid (HR2.out.below hb3)
  have HO3 := Lib.hid (HO2.out.below hb3 hg2)
  have HB3 : Hid (Below w.heap.size w w3) := HB2.out.trans (hb3.mono (by omega))
  have hs5 : w.heap.size < w3.heap.size := by omega
  clear hb3
  go_wp2_with (refine wpList_store_box rfl 87 _ _ rfl w.heap.size [.int .i64 (k : Int), .int .i64 (x : Int), .int .i64 (y : Int), .int .i64 st', .int .i64 (u : Int), .int .i64 (ww : Int), .int .i64 (ww : Int), .int .i64 (ww : Int), .bool dn', .int .i64 res'] rfl rfl 87 _ HT3.out Tryd.taskSize rfl H1.out ?_; intro w4 BT4 ht4)
  have HO4 := Lib.hid (ht4.own HO3.out n3 n3)
  have BR4 := ht4.box HR3.out n5 n5
  have HB4 : Hid (Below w.heap.size w w4) := Below.trans HB3.out (ht4.below (by omega) (Nat.le_refl _) (Nat.le_refl _))
  have hs6 := BR4.lt
  obtain ⟨_, _, _, _, _, _, _, _, _, _⟩ := BT4.ten
  obtain ⟨_, _, _, _, _, _, _, _, _, _⟩ := BT4.tenf
  obtain ⟨_, _, _, _, _, _, _, _, _, _⟩ := BR4.ten
  obtain ⟨_, _, _, _, _, _, _, _, _, _⟩ := BR4.tenf
  clear BT4 BR4 ht4
  go_region
  go_wp2_with fail
  refine bodyPost_ret (v := .tuple #[.slice (some ⟨g, 0, none⟩) la c7, .agg #[.int .i64 (k : Int), .int .i64 (x : Int), .int .i64 (y : Int), .int .i64 st', .int .i64 (u : Int), .int .i64 (ww : Int), .int .i64 (ww : Int), .int .i64 (ww : Int), .bool dn', .int .i64 res']]) (by simp only [results, Tryd.results60]; go_simp) rfl ⟨_, _, rfl, hgw, ?_, ?_⟩
  · refine Own.drew1 ?_; (repeat refine Own.setOther ?_ (by assumption) _); exact HO4.out
  · refine Below.drew ?_; (repeat refine Below.setCell ?_ (by first | assumption | exact Nat.le_refl _ | exact Nat.le_succ _) _); exact HB4.out

set_option maxRecDepth 100000 in
set_option maxHeartbeats 2000000 in
theorem step_5n (a b : Option Addr) (la ca cb : Nat) (pr : List Int) (up : List Nat) (k x y u v ww r res : Nat) (w : World) {lo hi lo2 hi2 : Nat}
    (hp : RowN lo hi w a la up) (hhi : hi ≤ w.heap.size) (hq : Row lo2 hi2 w b la pr) (hhi2 : hi2 ≤ w.heap.size) (hu : u < la) (hv : v < la) (hw : ww < la) (hr : r < la) (hm : la ≤ 1000000) (e : el up ww ≠ ww) :
    Calls Tryd.prog 60 #[.slice a la ca, .slice b la cb, .agg #[.int .i64 (k : Int), .int .i64 (x : Int), .int .i64 (y : Int), .int .i64 5, .int .i64 (u : Int), .int .i64 (v : Int), .int .i64 (ww : Int), .int .i64 (r : Int), .bool false, .int .i64 (res : Int)]] w fun e w' =>
      ∃ g c, e = .returned (.tuple #[.slice (some ⟨g, 0, none⟩) la c, .agg #[.int .i64 (k : Int), .int .i64 (x : Int), .int .i64 (y : Int), .int .i64 6, .int .i64 (u : Int), .int .i64 (v : Int), .int .i64 (ww : Int), .int .i64 (el up ww : Int), .bool false, .int .i64 (res : Int)]]) ∧ w.heap.size ≤ g ∧ Own w' g (up) ∧ Below w.heap.size w w' := by
  have HL := Lib.hid hp.1
  have HP := Lib.hid hp
  have HQ := Lib.hid hq
  clear hp hq
  obtain ⟨q, hq⟩ : ∃ q, el up ww = q := ⟨_, rfl⟩
  have HE := Lib.hid e
  rw [hq]
  have HQE := Lib.hid hq
  clear e hq
  go_enter Tryd.func60, Tryd.ntmps60
  go_wp2_with fail
  refine (clone_own _ _ _ up _ ((HP.out.alloc hhi _).alloc (by simp; omega) _) (by simp; omega) (by omega) hm).mono ?_
  rintro e w1 ⟨g, c7, rfl, hg, ho, hb1⟩
  have BT := ((Box.new w 87 [.int .i64 (k : Int), .int .i64 (x : Int), .int .i64 (y : Int), .int .i64 5, .int .i64 (u : Int), .int .i64 (v : Int), .int .i64 (ww : Int), .int .i64 (r : Int), .bool false, .int .i64 (res : Int)]).alloc (.cells #[.int .i64 0, .int .i64 0, .int .i64 0, .int .i64 0, .int .i64 0, .int .i64 0, .int .i64 0, .int .i64 0, .bool false, .int .i64 0] 87)).below hb1
  have BR := (Box.new (w.alloc (.cells #[.int .i64 (k : Int), .int .i64 (x : Int), .int .i64 (y : Int), .int .i64 5, .int .i64 (u : Int), .int .i64 (v : Int), .int .i64 (ww : Int), .int .i64 (r : Int), .bool false, .int .i64 (res : Int)] 87)) 87 [.int .i64 0, .int .i64 0, .int .i64 0, .int .i64 0, .int .i64 0, .int .i64 0, .int .i64 0, .int .i64 0, .bool false, .int .i64 0]).below hb1
  rw [World.size_alloc] at BR
  rw [World.size_alloc, World.size_alloc] at hg
  have hs1 := BR.lt
  have hg1 := ho.1
  have HB1 : Hid (Below w.heap.size w w1) := (below_two _ _ _).trans (hb1.mono (by simp; omega))
  have HO := Lib.hid ho
  have hgw : w.heap.size ≤ g := by omega
  have n1 : w.heap.size ≠ g := by omega
  have n2 : w.heap.size + 1 ≠ g := by omega
  have n3 : g ≠ w.heap.size := by omega
  have n4 : g ≠ w.heap.size + 1 := by omega
  have n5 : w.heap.size + 1 ≠ w.heap.size := by omega
  have n6 : w.heap.size ≠ w.heap.size + 1 := by omega
  have HT := Lib.hid BT
  have HR := Lib.hid BR
  obtain ⟨_, _, _, _, _, _, _, _, _, _⟩ := BT.ten
  obtain ⟨_, _, _, _, _, _, _, _, _, _⟩ := BT.tenf
  clear BT BR hb1 ho hg
  go_wp2_with fail
  refine (find_41n g la c7 w.heap.size up k x y u v ww r res _ HO.out HL.out HT.out n3 hu hv hw hr hm HE.out).mono ?_
  rw [HQE.out]
  rintro e w2 ⟨rfl, ho2, BT2, ht2⟩
  have hs2 := ht2.size
  have HO2 := Lib.hid ho2
  have HT2 := Lib.hid BT2
  have HR2 := Lib.hid (ht2.box HR.out n2 n5)
  have HB2 : Hid (Below w.heap.size w w2) := HB1.out.trans (ht2.below (by omega) hgw (Nat.le_refl _))
  have hg2 := ho2.1
  have hs3 : w.heap.size + 1 < w2.heap.size := by omega
  obtain ⟨_, _, _, _, _, _, _, _, _, _⟩ := BT2.ten
  obtain ⟨_, _, _, _, _, _, _, _, _, _⟩ := BT2.tenf
  clear ho2 BT2 ht2
  obtain ⟨_, _, _, _, _, _, _, _, _, _⟩ := HR2.out.ten
  obtain ⟨_, _, _, _, _, _, _, _, _, _⟩ := HR2.out.tenf
  go_wp2_with fail
  go_region
  go_wp2_with fail
  refine bodyPost_ret (v := .tuple #[.slice (some ⟨g, 0, none⟩) la c7, .agg #[.int .i64 (k : Int), .int .i64 (x : Int), .int .i64 (y : Int), .int .i64 6, .int .i64 (u : Int), .int .i64 (v : Int), .int .i64 (ww : Int), .int .i64 (q : Int), .bool false, .int .i64 (res : Int)]]) (by simp only [results, Tryd.results60]; go_simp) rfl ⟨_, _, rfl, hgw, ?_, ?_⟩
  · refine Own.drew1 ?_; (repeat refine Own.setOther ?_ (by assumption) _); exact HO2.out
  · refine Below.drew ?_; (repeat refine Below.setCell ?_ (by first | assumption | exact Nat.le_refl _ | exact Nat.le_succ _) _); exact HB2.out

set_option maxRecDepth 100000 in
set_option maxHeartbeats 2000000 in
theorem step_7y (a b : Option Addr) (la ca cb : Nat) (pr : List Int) (up : List Nat) (k x y u v ww r res : Nat) (w : World) {lo hi lo2 hi2 : Nat}
    (hp : RowN lo hi w a la up) (hhi : hi ≤ w.heap.size) (hq : Row lo2 hi2 w b la pr) (hhi2 : hi2 ≤ w.heap.size) (hu : u < la) (hv : v < la) (hw : ww < la) (hr : r < la) (hm : la ≤ 1000000) (e : el up u = u) :
    Calls Tryd.prog 60 #[.slice a la ca, .slice b la cb, .agg #[.int .i64 (k : Int), .int .i64 (x : Int), .int .i64 (y : Int), .int .i64 7, .int .i64 (u : Int), .int .i64 (v : Int), .int .i64 (ww : Int), .int .i64 (r : Int), .bool false, .int .i64 (res : Int)]] w fun e w' =>
      ∃ g c, e = .returned (.tuple #[.slice (some ⟨g, 0, none⟩) la c, .agg #[.int .i64 (k : Int), .int .i64 (x : Int), .int .i64 (y : Int), .int .i64 7, .int .i64 (u : Int), .int .i64 (v : Int), .int .i64 (u : Int), .int .i64 (r : Int), .bool true, .int .i64 0]]) ∧ w.heap.size ≤ g ∧ Own w' g (up) ∧ Below w.heap.size w w' := by
  have HL := Lib.hid hp.1
  have HP := Lib.hid hp
  have HQ := Lib.hid hq
  clear hp hq
  have HE := Lib.hid e
  clear e
  go_enter Tryd.func60, Tryd.ntmps60
  go_wp2_with fail
  refine (clone_own _ _ _ up _ ((HP.out.alloc hhi _).alloc (by simp; omega) _) (by simp; omega) (by omega) hm).mono ?_
  rintro e w1 ⟨g, c7, rfl, hg, ho, hb1⟩
  have BT := ((Box.new w 87 [.int .i64 (k : Int), .int .i64 (x : Int), .int .i64 (y : Int), .int .i64 7, .int .i64 (u : Int), .int .i64 (v : Int), .int .i64 (ww : Int), .int .i64 (r : Int), .bool false, .int .i64 (res : Int)]).alloc (.cells #[.int .i64 0, .int .i64 0, .int .i64 0, .int .i64 0, .int .i64 0, .int .i64 0, .int .i64 0, .int .i64 0, .bool false, .int .i64 0] 87)).below hb1
  have BR := (Box.new (w.alloc (.cells #[.int .i64 (k : Int), .int .i64 (x : Int), .int .i64 (y : Int), .int .i64 7, .int .i64 (u : Int), .int .i64 (v : Int), .int .i64 (ww : Int), .int .i64 (r : Int), .bool false, .int .i64 (res : Int)] 87)) 87 [.int .i64 0, .int .i64 0, .int .i64 0, .int .i64 0, .int .i64 0, .int .i64 0, .int .i64 0, .int .i64 0, .bool false, .int .i64 0]).below hb1
  rw [World.size_alloc] at BR
  rw [World.size_alloc, World.size_alloc] at hg
  have hs1 := BR.lt
  have hg1 := ho.1
  have HB1 : Hid (Below w.heap.size w w1) := (below_two _ _ _).trans (hb1.mono (by simp; omega))
  have HO := Lib.hid ho
  have hgw : w.heap.size ≤ g := by omega
  have n1 : w.heap.size ≠ g := by omega
  have n2 : w.heap.size + 1 ≠ g := by omega
  have n3 : g ≠ w.heap.size := by omega
  have n4 : g ≠ w.heap.size + 1 := by omega
  have n5 : w.heap.size + 1 ≠ w.heap.size := by omega
  have n6 : w.heap.size ≠ w.heap.size + 1 := by omega
  have HT := Lib.hid BT
  have HR := Lib.hid BR
  obtain ⟨_, _, _, _, _, _, _, _, _, _⟩ := BT.ten
  obtain ⟨_, _, _, _, _, _, _, _, _, _⟩ := BT.tenf
  clear BT BR hb1 ho hg
  have H1 : Hid (∀ q0 ∈ ([.int .i64 (k : Int), .int .i64 (x : Int), .int .i64 (y : Int), .int .i64 7, .int .i64 (u : Int), .int .i64 (v : Int), .int .i64 (u : Int), .int .i64 (r : Int), .bool true, .int .i64 0] : List Value), q0.oneCell' = true) := by intro q0 hv; simp at hv; rcases hv with rfl | rfl | rfl | rfl | rfl | rfl | rfl | rfl | rfl | rfl <;> rfl
  go_wp2_with fail
  refine (again_y g la c7 up k x y u v ww r res _ HO.out HL.out hu hm HE.out).mono ?_
  rintro e w2 ⟨rfl, hb2⟩
  have hs2 := hb2.size
  have HO2 := Lib.hid (HO.out.below hb2 hg1)
  have HT2 := Lib.hid (HT.out.below hb2)
  have HR2 := Lib.hid (HR.out.below hb2)
  have HB2 : Hid (Below w.heap.size w w2) := HB1.out.trans (hb2.mono (by omega))
  have hs3 : w.heap.size < w2.heap.size := by omega
  clear hb2
  go_wp2_with (refine wpList_store_box rfl 87 _ _ rfl w.heap.size [.int .i64 (k : Int), .int .i64 (x : Int), .int .i64 (y : Int), .int .i64 7, .int .i64 (u : Int), .int .i64 (v : Int), .int .i64 (u : Int), .int .i64 (r : Int), .bool true, .int .i64 0] rfl rfl 87 _ HT2.out Tryd.taskSize rfl H1.out ?_; intro w4 BT4 ht4)
  have HO4 := Lib.hid (ht4.own HO2.out n3 n3)
  have BR4 := ht4.box HR2.out n5 n5
  have HB4 : Hid (Below w.heap.size w w4) := Below.trans HB2.out (ht4.below (by omega) (Nat.le_refl _) (Nat.le_refl _))
  have hs6 := BR4.lt
  obtain ⟨_, _, _, _, _, _, _, _, _, _⟩ := BT4.ten
  obtain ⟨_, _, _, _, _, _, _, _, _, _⟩ := BT4.tenf
  obtain ⟨_, _, _, _, _, _, _, _, _, _⟩ := BR4.ten
  obtain ⟨_, _, _, _, _, _, _, _, _, _⟩ := BR4.tenf
  clear BT4 BR4 ht4
  go_region
  go_wp2_with fail
  refine bodyPost_ret (v := .tuple #[.slice (some ⟨g, 0, none⟩) la c7, .agg #[.int .i64 (k : Int), .int .i64 (x : Int), .int .i64 (y : Int), .int .i64 7, .int .i64 (u : Int), .int .i64 (v : Int), .int .i64 (u : Int), .int .i64 (r : Int), .bool true, .int .i64 0]]) (by simp only [results, Tryd.results60]; go_simp) rfl ⟨_, _, rfl, hgw, ?_, ?_⟩
  · refine Own.drew1 ?_; (repeat refine Own.setOther ?_ (by assumption) _); exact HO4.out
  · refine Below.drew ?_; (repeat refine Below.setCell ?_ (by first | assumption | exact Nat.le_refl _ | exact Nat.le_succ _) _); exact HB4.out

set_option maxRecDepth 100000 in
set_option maxHeartbeats 2000000 in
theorem step_7n (a b : Option Addr) (la ca cb : Nat) (pr : List Int) (up : List Nat) (k x y u v ww r res : Nat) (w : World) {lo hi lo2 hi2 : Nat}
    (hp : RowN lo hi w a la up) (hhi : hi ≤ w.heap.size) (hq : Row lo2 hi2 w b la pr) (hhi2 : hi2 ≤ w.heap.size) (hu : u < la) (hv : v < la) (hw : ww < la) (hr : r < la) (hm : la ≤ 1000000) (e : el up u ≠ u) :
    Calls Tryd.prog 60 #[.slice a la ca, .slice b la cb, .agg #[.int .i64 (k : Int), .int .i64 (x : Int), .int .i64 (y : Int), .int .i64 7, .int .i64 (u : Int), .int .i64 (v : Int), .int .i64 (ww : Int), .int .i64 (r : Int), .bool false, .int .i64 (res : Int)]] w fun e w' =>
      ∃ g c, e = .returned (.tuple #[.slice (some ⟨g, 0, none⟩) la c, .agg #[.int .i64 (k : Int), .int .i64 (x : Int), .int .i64 (y : Int), .int .i64 1, .int .i64 (u : Int), .int .i64 (v : Int), .int .i64 (el up u : Int), .int .i64 (r : Int), .bool false, .int .i64 (res : Int)]]) ∧ w.heap.size ≤ g ∧ Own w' g (up) ∧ Below w.heap.size w w' := by
  have HL := Lib.hid hp.1
  have HP := Lib.hid hp
  have HQ := Lib.hid hq
  clear hp hq
  obtain ⟨q, hq⟩ : ∃ q, el up u = q := ⟨_, rfl⟩
  have HE := Lib.hid e
  rw [hq]
  have HQE := Lib.hid hq
  clear e hq
  go_enter Tryd.func60, Tryd.ntmps60
  go_wp2_with fail
  refine (clone_own _ _ _ up _ ((HP.out.alloc hhi _).alloc (by simp; omega) _) (by simp; omega) (by omega) hm).mono ?_
  rintro e w1 ⟨g, c7, rfl, hg, ho, hb1⟩
  have BT := ((Box.new w 87 [.int .i64 (k : Int), .int .i64 (x : Int), .int .i64 (y : Int), .int .i64 7, .int .i64 (u : Int), .int .i64 (v : Int), .int .i64 (ww : Int), .int .i64 (r : Int), .bool false, .int .i64 (res : Int)]).alloc (.cells #[.int .i64 0, .int .i64 0, .int .i64 0, .int .i64 0, .int .i64 0, .int .i64 0, .int .i64 0, .int .i64 0, .bool false, .int .i64 0] 87)).below hb1
  have BR := (Box.new (w.alloc (.cells #[.int .i64 (k : Int), .int .i64 (x : Int), .int .i64 (y : Int), .int .i64 7, .int .i64 (u : Int), .int .i64 (v : Int), .int .i64 (ww : Int), .int .i64 (r : Int), .bool false, .int .i64 (res : Int)] 87)) 87 [.int .i64 0, .int .i64 0, .int .i64 0, .int .i64 0, .int .i64 0, .int .i64 0, .int .i64 0, .int .i64 0, .bool false, .int .i64 0]).below hb1
  rw [World.size_alloc] at BR
  rw [World.size_alloc, World.size_alloc] at hg
  have hs1 := BR.lt
  have hg1 := ho.1
  have HB1 : Hid (Below w.heap.size w w1) := (below_two _ _ _).trans (hb1.mono (by simp; omega))
  have HO := Lib.hid ho
  have hgw : w.heap.size ≤ g := by omega
  have n1 : w.heap.size ≠ g := by omega
  have n2 : w.heap.size + 1 ≠ g := by omega
  have n3 : g ≠ w.heap.size := by omega
  have n4 : g ≠ w.heap.size + 1 := by omega
  have n5 : w.heap.size + 1 ≠ w.heap.size := by omega
  have n6 : w.heap.size ≠ w.heap.size + 1 := by omega
  have HT := Lib.hid BT
  have HR := Lib.hid BR
  obtain ⟨_, _, _, _, _, _, _, _, _, _⟩ := BT.ten
  obtain ⟨_, _, _, _, _, _, _, _, _, _⟩ := BT.tenf
  clear BT BR hb1 ho hg
  have H1 : Hid (∀ q0 ∈ ([.int .i64 (k : Int), .int .i64 (x : Int), .int .i64 (y : Int), .int .i64 1, .int .i64 (u : Int), .int .i64 (v : Int), .int .i64 (q : Int), .int .i64 (r : Int), .bool false, .int .i64 (res : Int)] : List Value), q0.oneCell' = true) := by intro q0 hv; simp at hv; rcases hv with rfl | rfl | rfl | rfl | rfl | rfl | rfl | rfl | rfl | rfl <;> rfl
  go_wp2_with fail
  refine (again_n g la c7 up k x y u v ww r res _ HO.out HL.out hu hm HE.out).mono ?_
  rw [HQE.out]
  rintro e w2 ⟨rfl, hb2⟩
  have hs2 := hb2.size
  have HO2 := Lib.hid (HO.out.below hb2 hg1)
  have HT2 := Lib.hid (HT.out.below hb2)
  have HR2 := Lib.hid (HR.out.below hb2)
  have HB2 : Hid (Below w.heap.size w w2) := HB1.out.trans (hb2.mono (by omega))
  have hs3 : w.heap.size < w2.heap.size := by omega
  clear hb2
  go_wp2_with (refine wpList_store_box rfl 87 _ _ rfl w.heap.size [.int .i64 (k : Int), .int .i64 (x : Int), .int .i64 (y : Int), .int .i64 1, .int .i64 (u : Int), .int .i64 (v : Int), .int .i64 (q : Int), .int .i64 (r : Int), .bool false, .int .i64 (res : Int)] rfl rfl 87 _ HT2.out Tryd.taskSize rfl H1.out ?_; intro w4 BT4 ht4)
  have HO4 := Lib.hid (ht4.own HO2.out n3 n3)
  have BR4 := ht4.box HR2.out n5 n5
  have HB4 : Hid (Below w.heap.size w w4) := Below.trans HB2.out (ht4.below (by omega) (Nat.le_refl _) (Nat.le_refl _))
  have hs6 := BR4.lt
  obtain ⟨_, _, _, _, _, _, _, _, _, _⟩ := BT4.ten
  obtain ⟨_, _, _, _, _, _, _, _, _, _⟩ := BT4.tenf
  obtain ⟨_, _, _, _, _, _, _, _, _, _⟩ := BR4.ten
  obtain ⟨_, _, _, _, _, _, _, _, _, _⟩ := BR4.tenf
  clear BT4 BR4 ht4
  go_region
  go_wp2_with fail
  refine bodyPost_ret (v := .tuple #[.slice (some ⟨g, 0, none⟩) la c7, .agg #[.int .i64 (k : Int), .int .i64 (x : Int), .int .i64 (y : Int), .int .i64 1, .int .i64 (u : Int), .int .i64 (v : Int), .int .i64 (q : Int), .int .i64 (r : Int), .bool false, .int .i64 (res : Int)]]) (by simp only [results, Tryd.results60]; go_simp) rfl ⟨_, _, rfl, hgw, ?_, ?_⟩
  · refine Own.drew1 ?_; (repeat refine Own.setOther ?_ (by assumption) _); exact HO4.out
  · refine Below.drew ?_; (repeat refine Below.setCell ?_ (by first | assumption | exact Nat.le_refl _ | exact Nat.le_succ _) _); exact HB4.out

end Go.Proofs.YthhcchdjeeigpaaDoor
