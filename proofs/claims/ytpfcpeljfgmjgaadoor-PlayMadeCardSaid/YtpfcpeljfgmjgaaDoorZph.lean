/- Contracts of Step, one way through it each. Contracts of Step, one way through it each. Contracts of Step, one way through it each. Contracts of Step, one way through it each. More mathematics of finding and uniting: one operation alone; a chain. No program. -/
import Derived.Test.YtpfcpeljfgmjgaaDoorZpe
import Derived.Test.YtpfcpeljfgmjgaaDoorZpf
import Derived.Test.YtpfcpeljfgmjgaaDoorZpg
import Derived.RegionTactic
import Derived.BigRegion
import Derived.Deep.CutRange
import Derived.Test.YtpfcpeljfgmjgaaDoorZpb
namespace Go.Proofs.YtpfcpeljfgmjgaaDoor
open Go.RowKit
set_option linter.unusedVariables false
set_option linter.unusedSimpArgs false

set_option maxRecDepth 100000 in
set_option maxHeartbeats 2000000 in
theorem step_dn (a b : Option Addr) (la ca cb : Nat) (pr : List Int) (up : List Nat) (k x y u v ww r res : Nat) (w : World) {lo hi lo2 hi2 : Nat}
    (hp : RowN lo hi w a la up) (hhi : hi ≤ w.heap.size) (hq : Row lo2 hi2 w b la pr) (hhi2 : hi2 ≤ w.heap.size) (hu : u < la) (hv : v < la) (hw : ww < la) (hr : r < la) (hm : la ≤ 1000000) (st : Nat) :
    Calls Tryd.prog 73 #[.slice a la ca, .slice b la cb, .agg #[.int .i64 (k : Int), .int .i64 (x : Int), .int .i64 (y : Int), .int .i64 (st : Int), .int .i64 (u : Int), .int .i64 (v : Int), .int .i64 (ww : Int), .int .i64 (r : Int), .bool true, .int .i64 (res : Int)]] w fun e w' =>
      ∃ g c, e = .returned (.tuple #[.slice (some ⟨g, 0, none⟩) la c, .agg #[.int .i64 (k : Int), .int .i64 (x : Int), .int .i64 (y : Int), .int .i64 (st : Int), .int .i64 (u : Int), .int .i64 (v : Int), .int .i64 (ww : Int), .int .i64 (r : Int), .bool true, .int .i64 (res : Int)]]) ∧ w.heap.size ≤ g ∧ Own w' g (up) ∧ Below w.heap.size w w' := by
  have HL := Lib.hid hp.1
  have HP := Lib.hid hp
  have HQ := Lib.hid hq
  clear hp hq
  go_enter Tryd.func73, Tryd.ntmps73
  go_wp2_with fail
  refine (clone_own _ _ _ up _ ((HP.out.alloc hhi _).alloc (by simp; omega) _) (by simp; omega) (by omega) hm).mono ?_
  rintro e w1 ⟨g, c7, rfl, hg, ho, hb1⟩
  have BT := ((Box.new w 81 [.int .i64 (k : Int), .int .i64 (x : Int), .int .i64 (y : Int), .int .i64 (st : Int), .int .i64 (u : Int), .int .i64 (v : Int), .int .i64 (ww : Int), .int .i64 (r : Int), .bool true, .int .i64 (res : Int)]).alloc (.cells #[.int .i64 0, .int .i64 0, .int .i64 0, .int .i64 0, .int .i64 0, .int .i64 0, .int .i64 0, .int .i64 0, .bool false, .int .i64 0] 81)).below hb1
  have BR := (Box.new (w.alloc (.cells #[.int .i64 (k : Int), .int .i64 (x : Int), .int .i64 (y : Int), .int .i64 (st : Int), .int .i64 (u : Int), .int .i64 (v : Int), .int .i64 (ww : Int), .int .i64 (r : Int), .bool true, .int .i64 (res : Int)] 81)) 81 [.int .i64 0, .int .i64 0, .int .i64 0, .int .i64 0, .int .i64 0, .int .i64 0, .int .i64 0, .int .i64 0, .bool false, .int .i64 0]).below hb1
  rw [World.size_alloc] at BR
  rw [World.size_alloc, World.size_alloc] at hg
  have hs1 := BR.lt
  have hg1 := ho.1
  have HB1 : Hid (Below w.heap.size w w1) := (below_two _ _ _).trans (hb1.mono (by simp; omega))
  have HO := Lib.hid ho
  have hgw : w.heap.size ≤ g := by omega
  have n1 : w.heap.size ≠ g := by omega
  have n2 : w.heap.size + 1 ≠ g := by omega
  have n3 : g ≠ w.heap.size := by omega
  have n4 : g ≠ w.heap.size + 1 := by omega
  have n5 : w.heap.size + 1 ≠ w.heap.size := by omega
  have n6 : w.heap.size ≠ w.heap.size + 1 := by omega
  have HT := Lib.hid BT
  have HR := Lib.hid BR
  obtain ⟨_, _, _, _, _, _, _, _, _, _⟩ := BT.ten
  obtain ⟨_, _, _, _, _, _, _, _, _, _⟩ := BT.tenf
  clear BT BR hb1 ho hg
  obtain ⟨_, _, _, _, _, _, _, _, _, _⟩ := HR.out.ten
  obtain ⟨_, _, _, _, _, _, _, _, _, _⟩ := HR.out.tenf
  go_wp2_with fail
  go_region
  go_wp2_with fail
  refine bodyPost_ret (v := .tuple #[.slice (some ⟨g, 0, none⟩) la c7, .agg #[.int .i64 (k : Int), .int .i64 (x : Int), .int .i64 (y : Int), .int .i64 (st : Int), .int .i64 (u : Int), .int .i64 (v : Int), .int .i64 (ww : Int), .int .i64 (r : Int), .bool true, .int .i64 (res : Int)]]) (by simp only [results, Tryd.results73]; go_simp) rfl ⟨_, _, rfl, hgw, ?_, ?_⟩
  · refine Own.drew1 ?_; (repeat refine Own.setOther ?_ (by assumption) _); exact HO.out
  · refine Below.drew ?_; (repeat refine Below.setCell ?_ (by first | assumption | exact Nat.le_refl _ | exact Nat.le_succ _) _); exact HB1.out

set_option maxRecDepth 100000 in
set_option maxHeartbeats 2000000 in
theorem step_1r (a b : Option Addr) (la ca cb : Nat) (pr : List Int) (up : List Nat) (k x y u v ww r res : Nat) (w : World) (st' : Int) (dn' : Bool) (res' : Int) {lo hi lo2 hi2 : Nat}
    (hp : RowN lo hi w a la up) (hhi : hi ≤ w.heap.size) (hq : Row lo2 hi2 w b la pr) (hhi2 : hi2 ≤ w.heap.size) (hu : u < la) (hv : v < la) (hw : ww < la) (hr : r < la) (hm : la ≤ 1000000) (e : el up u = u) (h : Fst k u 1 false res st' dn' res') :
    Calls Tryd.prog 73 #[.slice a la ca, .slice b la cb, .agg #[.int .i64 (k : Int), .int .i64 (x : Int), .int .i64 (y : Int), .int .i64 1, .int .i64 (u : Int), .int .i64 (v : Int), .int .i64 (ww : Int), .int .i64 (r : Int), .bool false, .int .i64 (res : Int)]] w fun e w' =>
      ∃ g c, e = .returned (.tuple #[.slice (some ⟨g, 0, none⟩) la c, .agg #[.int .i64 (k : Int), .int .i64 (x : Int), .int .i64 (y : Int), .int .i64 st', .int .i64 (u : Int), .int .i64 (v : Int), .int .i64 (u : Int), .int .i64 (r : Int), .bool dn', .int .i64 res']]) ∧ w.heap.size ≤ g ∧ Own w' g (up) ∧ Below w.heap.size w w' := by
  have HL := Lib.hid hp.1
  have HP := Lib.hid hp
  have HQ := Lib.hid hq
  clear hp hq
  have HE := Lib.hid e
  have HF := Lib.hid h
  clear e h
  go_enter Tryd.func73, Tryd.ntmps73
  go_wp2_with fail
  refine (clone_own _ _ _ up _ ((HP.out.alloc hhi _).alloc (by simp; omega) _) (by simp; omega) (by omega) hm).mono ?_
  rintro e w1 ⟨g, c7, rfl, hg, ho, hb1⟩
  have BT := ((Box.new w 81 [.int .i64 (k : Int), .int .i64 (x : Int), .int .i64 (y : Int), .int .i64 1, .int .i64 (u : Int), .int .i64 (v : Int), .int .i64 (ww : Int), .int .i64 (r : Int), .bool false, .int .i64 (res : Int)]).alloc (.cells #[.int .i64 0, .int .i64 0, .int .i64 0, .int .i64 0, .int .i64 0, .int .i64 0, .int .i64 0, .int .i64 0, .bool false, .int .i64 0] 81)).below hb1
  have BR := (Box.new (w.alloc (.cells #[.int .i64 (k : Int), .int .i64 (x : Int), .int .i64 (y : Int), .int .i64 1, .int .i64 (u : Int), .int .i64 (v : Int), .int .i64 (ww : Int), .int .i64 (r : Int), .bool false, .int .i64 (res : Int)] 81)) 81 [.int .i64 0, .int .i64 0, .int .i64 0, .int .i64 0, .int .i64 0, .int .i64 0, .int .i64 0, .int .i64 0, .bool false, .int .i64 0]).below hb1
  rw [World.size_alloc] at BR
  rw [World.size_alloc, World.size_alloc] at hg
  have hs1 := BR.lt
  have hg1 := ho.1
  have HB1 : Hid (Below w.heap.size w w1) := (below_two _ _ _).trans (hb1.mono (by simp; omega))
  have HO := Lib.hid ho
  have hgw : w.heap.size ≤ g := by omega
  have n1 : w.heap.size ≠ g := by omega
  have n2 : w.heap.size + 1 ≠ g := by omega
  have n3 : g ≠ w.heap.size := by omega
  have n4 : g ≠ w.heap.size + 1 := by omega
  have n5 : w.heap.size + 1 ≠ w.heap.size := by omega
  have n6 : w.heap.size ≠ w.heap.size + 1 := by omega
  have HT := Lib.hid BT
  have HR := Lib.hid BR
  obtain ⟨_, _, _, _, _, _, _, _, _, _⟩ := BT.ten
  obtain ⟨_, _, _, _, _, _, _, _, _, _⟩ := BT.tenf
  clear BT BR hb1 ho hg
  go_wp2_with fail
  refine (find_10y g la c7 w.heap.size up k x y u v ww r res _ HO.out HL.out HT.out n3 hu hv hw hr hm HE.out).mono ?_
  rintro e w2 ⟨rfl, ho2, BT2, ht2⟩
  have hs2 := ht2.size
  have HO2 := Lib.hid ho2
  have HT2 := Lib.hid BT2
  have HR2 := Lib.hid (ht2.box HR.out n2 n5)
  have HB2 : Hid (Below w.heap.size w w2) := HB1.out.trans (ht2.below (by omega) hgw (Nat.le_refl _))
  have hg2 := ho2.1
  have hs3 : w.heap.size + 1 < w2.heap.size := by omega
  obtain ⟨_, _, _, _, _, _, _, _, _, _⟩ := BT2.ten
  obtain ⟨_, _, _, _, _, _, _, _, _, _⟩ := BT2.tenf
  clear ho2 BT2 ht2
  have H1 : Hid (∀ q0 ∈ ([.int .i64 (k : Int), .int .i64 (x : Int), .int .i64 (y : Int), .int .i64 st', .int .i64 (u : Int), .int .i64 (v : Int), .int .i64 (u : Int), .int .i64 (r : Int), .bool dn', .int .i64 res'] : List Value), q0.oneCell' = true) := by intro q0 hv; simp at hv; rcases hv with rfl | rfl | rfl | rfl | rfl | rfl | rfl | rfl | rfl | rfl <;> rfl
  go_wp2_with fail
  refine (first_v _ _ _ _ _ _ _ _ _ _ st' dn' res' _ HF.out).mono ?_
  rintro e w3 ⟨rfl, hb3⟩
  have hs4 := hb3.size
  have HT3 := Lib.hid (HT2.out.below hb3)
  have HR3 := Lib.hid (HR2.out.below hb3)
  have HO3 := Lib.hid (HO2.out.below hb3 hg2)
  have HB3 : Hid (Below w.heap.size w w3) := HB2.out.trans (hb3.mono (by omega))
  have hs5 : w.heap.size < w3.heap.size := by omega
  clear hb3
  go_wp2_with (refine wpList_store_box rfl 81 _ _ rfl w.heap.size [.int .i64 (k : Int), .int .i64 (x : Int), .int .i64 (y : Int), .int .i64 st', .int .i64 (u : Int), .int .i64 (v : Int), .int .i64 (u : Int), .int .i64 (r : Int), .bool dn', .int .i64 res'] rfl rfl 81 _ HT3.out Tryd.taskSize rfl H1.out ?_; intro w4 BT4 ht4)
  have HO4 := Lib.hid (ht4.own HO3.out n3 n3)
  have BR4 := ht4.box HR3.out n5 n5
  have HB4 : Hid (Below w.heap.size w w4) := Below.trans HB3.out (ht4.below (by omega) (Nat.le_refl _) (Nat.le_refl _))
  have hs6 := BR4.lt
  obtain ⟨_, _, _, _, _, _, _, _, _, _⟩ := BT4.ten
  obtain ⟨_, _, _, _, _, _, _, _, _, _⟩ := BT4.tenf
  obtain ⟨_, _, _, _, _, _, _, _, _, _⟩ := BR4.ten
  obtain ⟨_, _, _, _, _, _, _, _, _, _⟩ := BR4.tenf
  clear BT4 BR4 ht4
  go_region
  go_wp2_with fail
  refine bodyPost_ret (v := .tuple #[.slice (some ⟨g, 0, none⟩) la c7, .agg #[.int .i64 (k : Int), .int .i64 (x : Int), .int .i64 (y : Int), .int .i64 st', .int .i64 (u : Int), .int .i64 (v : Int), .int .i64 (u : Int), .int .i64 (r : Int), .bool dn', .int .i64 res']]) (by simp only [results, Tryd.results73]; go_simp) rfl ⟨_, _, rfl, hgw, ?_, ?_⟩
  · refine Own.drew1 ?_; (repeat refine Own.setOther ?_ (by assumption) _); exact HO4.out
  · refine Below.drew ?_; (repeat refine Below.setCell ?_ (by first | assumption | exact Nat.le_refl _ | exact Nat.le_succ _) _); exact HB4.out

set_option maxRecDepth 100000 in
set_option maxHeartbeats 2000000 in
theorem step_1n (a b : Option Addr) (la ca cb : Nat) (pr : List Int) (up : List Nat) (k x y u v ww r res : Nat) (w : World) {lo hi lo2 hi2 : Nat}
    (hp : RowN lo hi w a la up) (hhi : hi ≤ w.heap.size) (hq : Row lo2 hi2 w b la pr) (hhi2 : hi2 ≤ w.heap.size) (hu : u < la) (hv : v < la) (hw : ww < la) (hr : r < la) (hm : la ≤ 1000000) (e : el up u ≠ u) :
    Calls Tryd.prog 73 #[.slice a la ca, .slice b la cb, .agg #[.int .i64 (k : Int), .int .i64 (x : Int), .int .i64 (y : Int), .int .i64 1, .int .i64 (u : Int), .int .i64 (v : Int), .int .i64 (ww : Int), .int .i64 (r : Int), .bool false, .int .i64 (res : Int)]] w fun e w' =>
      ∃ g c, e = .returned (.tuple #[.slice (some ⟨g, 0, none⟩) la c, .agg #[.int .i64 (k : Int), .int .i64 (x : Int), .int .i64 (y : Int), .int .i64 2, .int .i64 (u : Int), .int .i64 (v : Int), .int .i64 (el up u : Int), .int .i64 (r : Int), .bool false, .int .i64 (res : Int)]]) ∧ w.heap.size ≤ g ∧ Own w' g (up) ∧ Below w.heap.size w w' := by
  have HL := Lib.hid hp.1
  have HP := Lib.hid hp
  have HQ := Lib.hid hq
  clear hp hq
  obtain ⟨q, hq⟩ : ∃ q, el up u = q := ⟨_, rfl⟩
  have HE := Lib.hid e
  rw [hq]
  have HQE := Lib.hid hq
  clear e hq
  go_enter Tryd.func73, Tryd.ntmps73
  go_wp2_with fail
  refine (clone_own _ _ _ up _ ((HP.out.alloc hhi _).alloc (by simp; omega) _) (by simp; omega) (by omega) hm).mono ?_
  rintro e w1 ⟨g, c7, rfl, hg, ho, hb1⟩
  have BT := ((Box.new w 81 [.int .i64 (k : Int), .int .i64 (x : Int), .int .i64 (y : Int), .int .i64 1, .int .i64 (u : Int), .int .i64 (v : Int), .int .i64 (ww : Int), .int .i64 (r : Int), .bool false, .int .i64 (res : Int)]).alloc (.cells #[.int .i64 0, .int .i64 0, .int .i64 0, .int .i64 0, .int .i64 0, .int .i64 0, .int .i64 0, .int .i64 0, .bool false, .int .i64 0] 81)).below hb1
  have BR := (Box.new (w.alloc (.cells #[.int .i64 (k : Int), .int .i64 (x : Int), .int .i64 (y : Int), .int .i64 1, .int .i64 (u : Int), .int .i64 (v : Int), .int .i64 (ww : Int), .int .i64 (r : Int), .bool false, .int .i64 (res : Int)] 81)) 81 [.int .i64 0, .int .i64 0, .int .i64 0, .int .i64 0, .int .i64 0, .int .i64 0, .int .i64 0, .int .i64 0, .bool false, .int .i64 0]).below hb1
  rw [World.size_alloc] at BR
  rw [World.size_alloc, World.size_alloc] at hg
  have hs1 := BR.lt
  have hg1 := ho.1
  have HB1 : Hid (Below w.heap.size w w1) := (below_two _ _ _).trans (hb1.mono (by simp; omega))
  have HO := Lib.hid ho
  have hgw : w.heap.size ≤ g := by omega
  have n1 : w.heap.size ≠ g := by omega
  have n2 : w.heap.size + 1 ≠ g := by omega
  have n3 : g ≠ w.heap.size := by omega
  have n4 : g ≠ w.heap.size + 1 := by omega
  have n5 : w.heap.size + 1 ≠ w.heap.size := by omega
  have n6 : w.heap.size ≠ w.heap.size + 1 := by omega
  have HT := Lib.hid BT
  have HR := Lib.hid BR
  obtain ⟨_, _, _, _, _, _, _, _, _, _⟩ := BT.ten
  obtain ⟨_, _, _, _, _, _, _, _, _, _⟩ := BT.tenf
  clear BT BR hb1 ho hg
  go_wp2_with fail
  refine (find_10n g la c7 w.heap.size up k x y u v ww r res _ HO.out HL.out HT.out n3 hu hv hw hr hm HE.out).mono ?_
  rw [HQE.out]
  rintro e w2 ⟨rfl, ho2, BT2, ht2⟩
  have hs2 := ht2.size
  have HO2 := Lib.hid ho2
  have HT2 := Lib.hid BT2
  have HR2 := Lib.hid (ht2.box HR.out n2 n5)
  have HB2 : Hid (Below w.heap.size w w2) := HB1.out.trans (ht2.below (by omega) hgw (Nat.le_refl _))
  have hg2 := ho2.1
  have hs3 : w.heap.size + 1 < w2.heap.size := by omega
  obtain ⟨_, _, _, _, _, _, _, _, _, _⟩ := BT2.ten
  obtain ⟨_, _, _, _, _, _, _, _, _, _⟩ := BT2.tenf
  clear ho2 BT2 ht2
  obtain ⟨_, _, _, _, _, _, _, _, _, _⟩ := HR2.out.ten
  obtain ⟨_, _, _, _, _, _, _, _, _, _⟩ := HR2.out.tenf
  go_wp2_with fail
  go_region
  go_wp2_with fail
  refine bodyPost_ret (v := .tuple #[.slice (some ⟨g, 0, none⟩) la c7, .agg #[.int .i64 (k : Int), .int .i64 (x : Int), .int .i64 (y : Int), .int .i64 2, .int .i64 (u : Int), .int .i64 (v : Int), .int .i64 (q : Int), .int .i64 (r : Int), .bool false, .int .i64 (res : Int)]]) (by simp only [results, Tryd.results73]; go_simp) rfl ⟨_, _, rfl, hgw, ?_, ?_⟩
  · refine Own.drew1 ?_; (repeat refine Own.setOther ?_ (by assumption) _); exact HO2.out
  · refine Below.drew ?_; (repeat refine Below.setCell ?_ (by first | assumption | exact Nat.le_refl _ | exact Nat.le_succ _) _); exact HB2.out

set_option maxRecDepth 100000 in
set_option maxHeartbeats 2000000 in
theorem step_2r (a b : Option Addr) (la ca cb : Nat) (pr : List Int) (up : List Nat) (k x y u v ww r res : Nat) (w : World) (st' : Int) (dn' : Bool) (res' : Int) {lo hi lo2 hi2 : Nat}
    (hp : RowN lo hi w a la up) (hhi : hi ≤ w.heap.size) (hq : Row lo2 hi2 w b la pr) (hhi2 : hi2 ≤ w.heap.size) (hu : u < la) (hv : v < la) (hw : ww < la) (hr : r < la) (hm : la ≤ 1000000) (e : el up ww = ww) (h : Fst k ww 2 false res st' dn' res') :
    Calls Tryd.prog 73 #[.slice a la ca, .slice b la cb, .agg #[.int .i64 (k : Int), .int .i64 (x : Int), .int .i64 (y : Int), .int .i64 2, .int .i64 (u : Int), .int .i64 (v : Int), .int .i64 (ww : Int), .int .i64 (r : Int), .bool false, .int .i64 (res : Int)]] w fun e w' =>
      ∃ g c, e = .returned (.tuple #[.slice (some ⟨g, 0, none⟩) la c, .agg #[.int .i64 (k : Int), .int .i64 (x : Int), .int .i64 (y : Int), .int .i64 st', .int .i64 (ww : Int), .int .i64 (v : Int), .int .i64 (ww : Int), .int .i64 (ww : Int), .bool dn', .int .i64 res']]) ∧ w.heap.size ≤ g ∧ Own w' g (up) ∧ Below w.heap.size w w' := by
  have HL := Lib.hid hp.1
  have HP := Lib.hid hp
  have HQ := Lib.hid hq
  clear hp hq
  have HE := Lib.hid e
  have HF := Lib.hid h
  clear e h
  go_enter Tryd.func73, Tryd.ntmps73
  go_wp2_with fail
  refine (clone_own _ _ _ up _ ((HP.out.alloc hhi _).alloc (by simp; omega) _) (by simp; omega) (by omega) hm).mono ?_
  rintro e w1 ⟨g, c7, rfl, hg, ho, hb1⟩
  have BT := ((Box.new w 81 [.int .i64 (k : Int), .int .i64 (x : Int), .int .i64 (y : Int), .int .i64 2, .int .i64 (u : Int), .int .i64 (v : Int), .int .i64 (ww : Int), .int .i64 (r : Int), .bool false, .int .i64 (res : Int)]).alloc (.cells #[.int .i64 0, .int .i64 0, .int .i64 0, .int .i64 0, .int .i64 0, .int .i64 0, .int .i64 0, .int .i64 0, .bool false, .int .i64 0] 81)).below hb1
  have BR := (Box.new (w.alloc (.cells #[.int .i64 (k : Int), .int .i64 (x : Int), .int .i64 (y : Int), .int .i64 2, .int .i64 (u : Int), .int .i64 (v : Int), .int .i64 (ww : Int), .int .i64 (r : Int), .bool false, .int .i64 (res : Int)] 81)) 81 [.int .i64 0, .int .i64 0, .int .i64 0, .int .i64 0, .int .i64 0, .int .i64 0, .int .i64 0, .int .i64 0, .bool false, .int .i64 0]).below hb1
  rw [World.size_alloc] at BR
  rw [World.size_alloc, World.size_alloc] at hg
  have hs1 := BR.lt
  have hg1 := ho.1
  have HB1 : Hid (Below w.heap.size w w1) := (below_two _ _ _).trans (hb1.mono (by simp; omega))
  have HO := Lib.hid ho
  have hgw : w.heap.size ≤ g := by omega
  have n1 : w.heap.size ≠ g := by omega
  have n2 : w.heap.size + 1 ≠ g := by omega
  have n3 : g ≠ w.heap.size := by omega
  have n4 : g ≠ w.heap.size + 1 := by omega
  have n5 : w.heap.size + 1 ≠ w.heap.size := by omega
  have n6 : w.heap.size ≠ w.heap.size + 1 := by omega
  have HT := Lib.hid BT
  have HR := Lib.hid BR
  obtain ⟨_, _, _, _, _, _, _, _, _, _⟩ := BT.ten
  obtain ⟨_, _, _, _, _, _, _, _, _, _⟩ := BT.tenf
  clear BT BR hb1 ho hg
  go_wp2_with fail
  refine (find_11y g la c7 w.heap.size up k x y u v ww r res _ HO.out HL.out HT.out n3 hu hv hw hr hm HE.out).mono ?_
  rintro e w2 ⟨rfl, ho2, BT2, ht2⟩
  have hs2 := ht2.size
  have HO2 := Lib.hid ho2
  have HT2 := Lib.hid BT2
  have HR2 := Lib.hid (ht2.box HR.out n2 n5)
  have HB2 : Hid (Below w.heap.size w w2) := HB1.out.trans (ht2.below (by omega) hgw (Nat.le_refl _))
  have hg2 := ho2.1
  have hs3 : w.heap.size + 1 < w2.heap.size := by omega
  obtain ⟨_, _, _, _, _, _, _, _, _, _⟩ := BT2.ten
  obtain ⟨_, _, _, _, _, _, _, _, _, _⟩ := BT2.tenf
  clear ho2 BT2 ht2
  have H1 : Hid (∀ q0 ∈ ([.int .i64 (k : Int), .int .i64 (x : Int), .int .i64 (y : Int), .int .i64 st', .int .i64 (ww : Int), .int .i64 (v : Int), .int .i64 (ww : Int), .int .i64 (ww : Int), .bool dn', .int .i64 res'] : List Value), q0.oneCell' = true) := by intro q0 hv; simp at hv; rcases hv with rfl | rfl | rfl | rfl | rfl | rfl | rfl | rfl | rfl | rfl <;> rfl
  go_wp2_with fail
  refine (first_v _ _ _ _ _ _ _ _ _ _ st' dn' res' _ HF.out).mono ?_
  rintro e w3 ⟨rfl, hb3⟩
  have hs4 := hb3.size
  have HT3 := Lib.hid (HT2.out.below hb3)
  have HR3 := Lib.hid (HR2.out.below hb3)
  have HO3 := Lib.hid (HO2.out.below hb3 hg2)
  have HB3 : Hid (Below w.heap.size w w3) := HB2.out.trans (hb3.mono (by omega))
  have hs5 : w.heap.size < w3.heap.size := by omega
  clear hb3
  go_wp2_with (refine wpList_store_box rfl 81 _ _ rfl w.heap.size [.int .i64 (k : Int), .int .i64 (x : Int), .int .i64 (y : Int), .int .i64 st', .int .i64 (ww : Int), .int .i64 (v : Int), .int .i64 (ww : Int), .int .i64 (ww : Int), .bool dn', .int .i64 res'] rfl rfl 81 _ HT3.out Tryd.taskSize rfl H1.out ?_; intro w4 BT4 ht4)
  have HO4 := Lib.hid (ht4.own HO3.out n3 n3)
  have BR4 := ht4.box HR3.out n5 n5
  have HB4 : Hid (Below w.heap.size w w4) := Below.trans HB3.out (ht4.below (by omega) (Nat.le_refl _) (Nat.le_refl _))
  have hs6 := BR4.lt
  obtain ⟨_, _, _, _, _, _, _, _, _, _⟩ := BT4.ten
  obtain ⟨_, _, _, _, _, _, _, _, _, _⟩ := BT4.tenf
  obtain ⟨_, _, _, _, _, _, _, _, _, _⟩ := BR4.ten
  obtain ⟨_, _, _, _, _, _, _, _, _, _⟩ := BR4.tenf
  clear BT4 BR4 ht4
  go_region
  go_wp2_with fail
  refine bodyPost_ret (v := .tuple #[.slice (some ⟨g, 0, none⟩) la c7, .agg #[.int .i64 (k : Int), .int .i64 (x : Int), .int .i64 (y : Int), .int .i64 st', .int .i64 (ww : Int), .int .i64 (v : Int), .int .i64 (ww : Int), .int .i64 (ww : Int), .bool dn', .int .i64 res']]) (by simp only [results, Tryd.results73]; go_simp) rfl ⟨_, _, rfl, hgw, ?_, ?_⟩
  · refine Own.drew1 ?_; (repeat refine Own.setOther ?_ (by assumption) _); exact HO4.out
  · refine Below.drew ?_; (repeat refine Below.setCell ?_ (by first | assumption | exact Nat.le_refl _ | exact Nat.le_succ _) _); exact HB4.out

set_option maxRecDepth 100000 in
set_option maxHeartbeats 2000000 in
theorem step_2n (a b : Option Addr) (la ca cb : Nat) (pr : List Int) (up : List Nat) (k x y u v ww r res : Nat) (w : World) {lo hi lo2 hi2 : Nat}
    (hp : RowN lo hi w a la up) (hhi : hi ≤ w.heap.size) (hq : Row lo2 hi2 w b la pr) (hhi2 : hi2 ≤ w.heap.size) (hu : u < la) (hv : v < la) (hw : ww < la) (hr : r < la) (hm : la ≤ 1000000) (e : el up ww ≠ ww) :
    Calls Tryd.prog 73 #[.slice a la ca, .slice b la cb, .agg #[.int .i64 (k : Int), .int .i64 (x : Int), .int .i64 (y : Int), .int .i64 2, .int .i64 (u : Int), .int .i64 (v : Int), .int .i64 (ww : Int), .int .i64 (r : Int), .bool false, .int .i64 (res : Int)]] w fun e w' =>
      ∃ g c, e = .returned (.tuple #[.slice (some ⟨g, 0, none⟩) la c, .agg #[.int .i64 (k : Int), .int .i64 (x : Int), .int .i64 (y : Int), .int .i64 3, .int .i64 (u : Int), .int .i64 (v : Int), .int .i64 (ww : Int), .int .i64 (el up ww : Int), .bool false, .int .i64 (res : Int)]]) ∧ w.heap.size ≤ g ∧ Own w' g (up) ∧ Below w.heap.size w w' := by
  have HL := Lib.hid hp.1
  have HP := Lib.hid hp
  have HQ := Lib.hid hq
  clear hp hq
  obtain ⟨q, hq⟩ : ∃ q, el up ww = q := ⟨_, rfl⟩
  have HE := Lib.hid e
  rw [hq]
  have HQE := Lib.hid hq
  clear e hq
  go_enter Tryd.func73, Tryd.ntmps73
  go_wp2_with fail
  refine (clone_own _ _ _ up _ ((HP.out.alloc hhi _).alloc (by simp; omega) _) (by simp; omega) (by omega) hm).mono ?_
  rintro e w1 ⟨g, c7, rfl, hg, ho, hb1⟩
  have BT := ((Box.new w 81 [.int .i64 (k : Int), .int .i64 (x : Int), .int .i64 (y : Int), .int .i64 2, .int .i64 (u : Int), .int .i64 (v : Int), .int .i64 (ww : Int), .int .i64 (r : Int), .bool false, .int .i64 (res : Int)]).alloc (.cells #[.int .i64 0, .int .i64 0, .int .i64 0, .int .i64 0, .int .i64 0, .int .i64 0, .int .i64 0, .int .i64 0, .bool false, .int .i64 0] 81)).below hb1
  have BR := (Box.new (w.alloc (.cells #[.int .i64 (k : Int), .int .i64 (x : Int), .int .i64 (y : Int), .int .i64 2, .int .i64 (u : Int), .int .i64 (v : Int), .int .i64 (ww : Int), .int .i64 (r : Int), .bool false, .int .i64 (res : Int)] 81)) 81 [.int .i64 0, .int .i64 0, .int .i64 0, .int .i64 0, .int .i64 0, .int .i64 0, .int .i64 0, .int .i64 0, .bool false, .int .i64 0]).below hb1
  rw [World.size_alloc] at BR
  rw [World.size_alloc, World.size_alloc] at hg
  have hs1 := BR.lt
  have hg1 := ho.1
  have HB1 : Hid (Below w.heap.size w w1) := (below_two _ _ _).trans (hb1.mono (by simp; omega))
  have HO := Lib.hid ho
  have hgw : w.heap.size ≤ g := by omega
  have n1 : w.heap.size ≠ g := by omega
  have n2 : w.heap.size + 1 ≠ g := by omega
  have n3 : g ≠ w.heap.size := by omega
  have n4 : g ≠ w.heap.size + 1 := by omega
  have n5 : w.heap.size + 1 ≠ w.heap.size := by omega
  have n6 : w.heap.size ≠ w.heap.size + 1 := by omega
  have HT := Lib.hid BT
  have HR := Lib.hid BR
  obtain ⟨_, _, _, _, _, _, _, _, _, _⟩ := BT.ten
  obtain ⟨_, _, _, _, _, _, _, _, _, _⟩ := BT.tenf
  clear BT BR hb1 ho hg
  go_wp2_with fail
  refine (find_11n g la c7 w.heap.size up k x y u v ww r res _ HO.out HL.out HT.out n3 hu hv hw hr hm HE.out).mono ?_
  rw [HQE.out]
  rintro e w2 ⟨rfl, ho2, BT2, ht2⟩
  have hs2 := ht2.size
  have HO2 := Lib.hid ho2
  have HT2 := Lib.hid BT2
  have HR2 := Lib.hid (ht2.box HR.out n2 n5)
  have HB2 : Hid (Below w.heap.size w w2) := HB1.out.trans (ht2.below (by omega) hgw (Nat.le_refl _))
  have hg2 := ho2.1
  have hs3 : w.heap.size + 1 < w2.heap.size := by omega
  obtain ⟨_, _, _, _, _, _, _, _, _, _⟩ := BT2.ten
  obtain ⟨_, _, _, _, _, _, _, _, _, _⟩ := BT2.tenf
  clear ho2 BT2 ht2
  obtain ⟨_, _, _, _, _, _, _, _, _, _⟩ := HR2.out.ten
  obtain ⟨_, _, _, _, _, _, _, _, _, _⟩ := HR2.out.tenf
  go_wp2_with fail
  go_region
  go_wp2_with fail
  refine bodyPost_ret (v := .tuple #[.slice (some ⟨g, 0, none⟩) la c7, .agg #[.int .i64 (k : Int), .int .i64 (x : Int), .int .i64 (y : Int), .int .i64 3, .int .i64 (u : Int), .int .i64 (v : Int), .int .i64 (ww : Int), .int .i64 (q : Int), .bool false, .int .i64 (res : Int)]]) (by simp only [results, Tryd.results73]; go_simp) rfl ⟨_, _, rfl, hgw, ?_, ?_⟩
  · refine Own.drew1 ?_; (repeat refine Own.setOther ?_ (by assumption) _); exact HO2.out
  · refine Below.drew ?_; (repeat refine Below.setCell ?_ (by first | assumption | exact Nat.le_refl _ | exact Nat.le_succ _) _); exact HB2.out

end Go.Proofs.YtpfcpeljfgmjgaaDoor

namespace Go.Proofs.YtpfcpeljfgmjgaaDoor
open Go.RowKit
set_option linter.unusedVariables false
set_option linter.unusedSimpArgs false

set_option maxRecDepth 100000 in
set_option maxHeartbeats 2000000 in
theorem step_3y (a b : Option Addr) (la ca cb : Nat) (pr : List Int) (up : List Nat) (k x y u v ww r res : Nat) (w : World) {lo hi lo2 hi2 : Nat}
    (hp : RowN lo hi w a la up) (hhi : hi ≤ w.heap.size) (hq : Row lo2 hi2 w b la pr) (hhi2 : hi2 ≤ w.heap.size) (hu : u < la) (hv : v < la) (hw : ww < la) (hr : r < la) (hm : la ≤ 1000000) (e : el up u = ww) :
    Calls Tryd.prog 73 #[.slice a la ca, .slice b la cb, .agg #[.int .i64 (k : Int), .int .i64 (x : Int), .int .i64 (y : Int), .int .i64 3, .int .i64 (u : Int), .int .i64 (v : Int), .int .i64 (ww : Int), .int .i64 (r : Int), .bool false, .int .i64 (res : Int)]] w fun e w' =>
      ∃ g c, e = .returned (.tuple #[.slice (some ⟨g, 0, none⟩) la c, .agg #[.int .i64 (k : Int), .int .i64 (x : Int), .int .i64 (y : Int), .int .i64 1, .int .i64 (ww : Int), .int .i64 (v : Int), .int .i64 (ww : Int), .int .i64 (r : Int), .bool false, .int .i64 (res : Int)]]) ∧ w.heap.size ≤ g ∧ Own w' g (up.set u r) ∧ Below w.heap.size w w' := by
  have HL := Lib.hid hp.1
  have HP := Lib.hid hp
  have HQ := Lib.hid hq
  clear hp hq
  have HE := Lib.hid e
  clear e
  go_enter Tryd.func73, Tryd.ntmps73
  go_wp2_with fail
  refine (clone_own _ _ _ up _ ((HP.out.alloc hhi _).alloc (by simp; omega) _) (by simp; omega) (by omega) hm).mono ?_
  rintro e w1 ⟨g, c7, rfl, hg, ho, hb1⟩
  have BT := ((Box.new w 81 [.int .i64 (k : Int), .int .i64 (x : Int), .int .i64 (y : Int), .int .i64 3, .int .i64 (u : Int), .int .i64 (v : Int), .int .i64 (ww : Int), .int .i64 (r : Int), .bool false, .int .i64 (res : Int)]).alloc (.cells #[.int .i64 0, .int .i64 0, .int .i64 0, .int .i64 0, .int .i64 0, .int .i64 0, .int .i64 0, .int .i64 0, .bool false, .int .i64 0] 81)).below hb1
  have BR := (Box.new (w.alloc (.cells #[.int .i64 (k : Int), .int .i64 (x : Int), .int .i64 (y : Int), .int .i64 3, .int .i64 (u : Int), .int .i64 (v : Int), .int .i64 (ww : Int), .int .i64 (r : Int), .bool false, .int .i64 (res : Int)] 81)) 81 [.int .i64 0, .int .i64 0, .int .i64 0, .int .i64 0, .int .i64 0, .int .i64 0, .int .i64 0, .int .i64 0, .bool false, .int .i64 0]).below hb1
  rw [World.size_alloc] at BR
  rw [World.size_alloc, World.size_alloc] at hg
  have hs1 := BR.lt
  have hg1 := ho.1
  have HB1 : Hid (Below w.heap.size w w1) := (below_two _ _ _).trans (hb1.mono (by simp; omega))
  have HO := Lib.hid ho
  have hgw : w.heap.size ≤ g := by omega
  have n1 : w.heap.size ≠ g := by omega
  have n2 : w.heap.size + 1 ≠ g := by omega
  have n3 : g ≠ w.heap.size := by omega
  have n4 : g ≠ w.heap.size + 1 := by omega
  have n5 : w.heap.size + 1 ≠ w.heap.size := by omega
  have n6 : w.heap.size ≠ w.heap.size + 1 := by omega
  have HT := Lib.hid BT
  have HR := Lib.hid BR
  obtain ⟨_, _, _, _, _, _, _, _, _, _⟩ := BT.ten
  obtain ⟨_, _, _, _, _, _, _, _, _, _⟩ := BT.tenf
  clear BT BR hb1 ho hg
  go_wp2_with fail
  refine (find_12y g la c7 w.heap.size up k x y u v ww r res _ HO.out HL.out HT.out n3 hu hv hw hr hm HE.out).mono ?_
  rintro e w2 ⟨rfl, ho2, BT2, ht2⟩
  have hs2 := ht2.size
  have HO2 := Lib.hid ho2
  have HT2 := Lib.hid BT2
  have HR2 := Lib.hid (ht2.box HR.out n2 n5)
  have HB2 : Hid (Below w.heap.size w w2) := HB1.out.trans (ht2.below (by omega) hgw (Nat.le_refl _))
  have hg2 := ho2.1
  have hs3 : w.heap.size + 1 < w2.heap.size := by omega
  obtain ⟨_, _, _, _, _, _, _, _, _, _⟩ := BT2.ten
  obtain ⟨_, _, _, _, _, _, _, _, _, _⟩ := BT2.tenf
  clear ho2 BT2 ht2
  obtain ⟨_, _, _, _, _, _, _, _, _, _⟩ := HR2.out.ten
  obtain ⟨_, _, _, _, _, _, _, _, _, _⟩ := HR2.out.tenf
  go_wp2_with fail
  go_region
  go_wp2_with fail
  refine bodyPost_ret (v := .tuple #[.slice (some ⟨g, 0, none⟩) la c7, .agg #[.int .i64 (k : Int), .int .i64 (x : Int), .int .i64 (y : Int), .int .i64 1, .int .i64 (ww : Int), .int .i64 (v : Int), .int .i64 (ww : Int), .int .i64 (r : Int), .bool false, .int .i64 (res : Int)]]) (by simp only [results, Tryd.results73]; go_simp) rfl ⟨_, _, rfl, hgw, ?_, ?_⟩
  · refine Own.drew1 ?_; (repeat refine Own.setOther ?_ (by assumption) _); exact HO2.out
  · refine Below.drew ?_; (repeat refine Below.setCell ?_ (by first | assumption | exact Nat.le_refl _ | exact Nat.le_succ _) _); exact HB2.out

set_option maxRecDepth 100000 in
set_option maxHeartbeats 2000000 in
theorem step_3n (a b : Option Addr) (la ca cb : Nat) (pr : List Int) (up : List Nat) (k x y u v ww r res : Nat) (w : World) {lo hi lo2 hi2 : Nat}
    (hp : RowN lo hi w a la up) (hhi : hi ≤ w.heap.size) (hq : Row lo2 hi2 w b la pr) (hhi2 : hi2 ≤ w.heap.size) (hu : u < la) (hv : v < la) (hw : ww < la) (hr : r < la) (hm : la ≤ 1000000) (e : el up u ≠ ww) :
    Calls Tryd.prog 73 #[.slice a la ca, .slice b la cb, .agg #[.int .i64 (k : Int), .int .i64 (x : Int), .int .i64 (y : Int), .int .i64 3, .int .i64 (u : Int), .int .i64 (v : Int), .int .i64 (ww : Int), .int .i64 (r : Int), .bool false, .int .i64 (res : Int)]] w fun e w' =>
      ∃ g c, e = .returned (.tuple #[.slice (some ⟨g, 0, none⟩) la c, .agg #[.int .i64 (k : Int), .int .i64 (x : Int), .int .i64 (y : Int), .int .i64 1, .int .i64 (ww : Int), .int .i64 (v : Int), .int .i64 (ww : Int), .int .i64 (r : Int), .bool false, .int .i64 (res : Int)]]) ∧ w.heap.size ≤ g ∧ Own w' g (up) ∧ Below w.heap.size w w' := by
  have HL := Lib.hid hp.1
  have HP := Lib.hid hp
  have HQ := Lib.hid hq
  clear hp hq
  have HE := Lib.hid e
  clear e
  go_enter Tryd.func73, Tryd.ntmps73
  go_wp2_with fail
  refine (clone_own _ _ _ up _ ((HP.out.alloc hhi _).alloc (by simp; omega) _) (by simp; omega) (by omega) hm).mono ?_
  rintro e w1 ⟨g, c7, rfl, hg, ho, hb1⟩
  have BT := ((Box.new w 81 [.int .i64 (k : Int), .int .i64 (x : Int), .int .i64 (y : Int), .int .i64 3, .int .i64 (u : Int), .int .i64 (v : Int), .int .i64 (ww : Int), .int .i64 (r : Int), .bool false, .int .i64 (res : Int)]).alloc (.cells #[.int .i64 0, .int .i64 0, .int .i64 0, .int .i64 0, .int .i64 0, .int .i64 0, .int .i64 0, .int .i64 0, .bool false, .int .i64 0] 81)).below hb1
  have BR := (Box.new (w.alloc (.cells #[.int .i64 (k : Int), .int .i64 (x : Int), .int .i64 (y : Int), .int .i64 3, .int .i64 (u : Int), .int .i64 (v : Int), .int .i64 (ww : Int), .int .i64 (r : Int), .bool false, .int .i64 (res : Int)] 81)) 81 [.int .i64 0, .int .i64 0, .int .i64 0, .int .i64 0, .int .i64 0, .int .i64 0, .int .i64 0, .int .i64 0, .bool false, .int .i64 0]).below hb1
  rw [World.size_alloc] at BR
  rw [World.size_alloc, World.size_alloc] at hg
  have hs1 := BR.lt
  have hg1 := ho.1
  have HB1 : Hid (Below w.heap.size w w1) := (below_two _ _ _).trans (hb1.mono (by simp; omega))
  have HO := Lib.hid ho
  have hgw : w.heap.size ≤ g := by omega
  have n1 : w.heap.size ≠ g := by omega
  have n2 : w.heap.size + 1 ≠ g := by omega
  have n3 : g ≠ w.heap.size := by omega
  have n4 : g ≠ w.heap.size + 1 := by omega
  have n5 : w.heap.size + 1 ≠ w.heap.size := by omega
  have n6 : w.heap.size ≠ w.heap.size + 1 := by omega
  have HT := Lib.hid BT
  have HR := Lib.hid BR
  obtain ⟨_, _, _, _, _, _, _, _, _, _⟩ := BT.ten
  obtain ⟨_, _, _, _, _, _, _, _, _, _⟩ := BT.tenf
  clear BT BR hb1 ho hg
  go_wp2_with fail
  refine (find_12n g la c7 w.heap.size up k x y u v ww r res _ HO.out HL.out HT.out n3 hu hv hw hr hm HE.out).mono ?_
  rintro e w2 ⟨rfl, ho2, BT2, ht2⟩
  have hs2 := ht2.size
  have HO2 := Lib.hid ho2
  have HT2 := Lib.hid BT2
  have HR2 := Lib.hid (ht2.box HR.out n2 n5)
  have HB2 : Hid (Below w.heap.size w w2) := HB1.out.trans (ht2.below (by omega) hgw (Nat.le_refl _))
  have hg2 := ho2.1
  have hs3 : w.heap.size + 1 < w2.heap.size := by omega
  obtain ⟨_, _, _, _, _, _, _, _, _, _⟩ := BT2.ten
  obtain ⟨_, _, _, _, _, _, _, _, _, _⟩ := BT2.tenf
  clear ho2 BT2 ht2
  obtain ⟨_, _, _, _, _, _, _, _, _, _⟩ := HR2.out.ten
  obtain ⟨_, _, _, _, _, _, _, _, _, _⟩ := HR2.out.tenf
  go_wp2_with fail
  go_region
  go_wp2_with fail
  refine bodyPost_ret (v := .tuple #[.slice (some ⟨g, 0, none⟩) la c7, .agg #[.int .i64 (k : Int), .int .i64 (x : Int), .int .i64 (y : Int), .int .i64 1, .int .i64 (ww : Int), .int .i64 (v : Int), .int .i64 (ww : Int), .int .i64 (r : Int), .bool false, .int .i64 (res : Int)]]) (by simp only [results, Tryd.results73]; go_simp) rfl ⟨_, _, rfl, hgw, ?_, ?_⟩
  · refine Own.drew1 ?_; (repeat refine Own.setOther ?_ (by assumption) _); exact HO2.out
  · refine Below.drew ?_; (repeat refine Below.setCell ?_ (by first | assumption | exact Nat.le_refl _ | exact Nat.le_succ _) _); exact HB2.out

set_option maxRecDepth 100000 in
set_option maxHeartbeats 2000000 in
theorem step_6y (a b : Option Addr) (la ca cb : Nat) (pr : List Int) (up : List Nat) (k x y u v ww r res : Nat) (w : World) {lo hi lo2 hi2 : Nat}
    (hp : RowN lo hi w a la up) (hhi : hi ≤ w.heap.size) (hq : Row lo2 hi2 w b la pr) (hhi2 : hi2 ≤ w.heap.size) (hu : u < la) (hv : v < la) (hw : ww < la) (hr : r < la) (hm : la ≤ 1000000) (e : el up v = ww) :
    Calls Tryd.prog 73 #[.slice a la ca, .slice b la cb, .agg #[.int .i64 (k : Int), .int .i64 (x : Int), .int .i64 (y : Int), .int .i64 6, .int .i64 (u : Int), .int .i64 (v : Int), .int .i64 (ww : Int), .int .i64 (r : Int), .bool false, .int .i64 (res : Int)]] w fun e w' =>
      ∃ g c, e = .returned (.tuple #[.slice (some ⟨g, 0, none⟩) la c, .agg #[.int .i64 (k : Int), .int .i64 (x : Int), .int .i64 (y : Int), .int .i64 4, .int .i64 (u : Int), .int .i64 (ww : Int), .int .i64 (ww : Int), .int .i64 (r : Int), .bool false, .int .i64 (res : Int)]]) ∧ w.heap.size ≤ g ∧ Own w' g (up.set v r) ∧ Below w.heap.size w w' := by
  have HL := Lib.hid hp.1
  have HP := Lib.hid hp
  have HQ := Lib.hid hq
  clear hp hq
  have HE := Lib.hid e
  clear e
  go_enter Tryd.func73, Tryd.ntmps73
  go_wp2_with fail
  refine (clone_own _ _ _ up _ ((HP.out.alloc hhi _).alloc (by simp; omega) _) (by simp; omega) (by omega) hm).mono ?_
  rintro e w1 ⟨g, c7, rfl, hg, ho, hb1⟩
  have BT := ((Box.new w 81 [.int .i64 (k : Int), .int .i64 (x : Int), .int .i64 (y : Int), .int .i64 6, .int .i64 (u : Int), .int .i64 (v : Int), .int .i64 (ww : Int), .int .i64 (r : Int), .bool false, .int .i64 (res : Int)]).alloc (.cells #[.int .i64 0, .int .i64 0, .int .i64 0, .int .i64 0, .int .i64 0, .int .i64 0, .int .i64 0, .int .i64 0, .bool false, .int .i64 0] 81)).below hb1
  have BR := (Box.new (w.alloc (.cells #[.int .i64 (k : Int), .int .i64 (x : Int), .int .i64 (y : Int), .int .i64 6, .int .i64 (u : Int), .int .i64 (v : Int), .int .i64 (ww : Int), .int .i64 (r : Int), .bool false, .int .i64 (res : Int)] 81)) 81 [.int .i64 0, .int .i64 0, .int .i64 0, .int .i64 0, .int .i64 0, .int .i64 0, .int .i64 0, .int .i64 0, .bool false, .int .i64 0]).below hb1
  rw [World.size_alloc] at BR
  rw [World.size_alloc, World.size_alloc] at hg
  have hs1 := BR.lt
  have hg1 := ho.1
  have HB1 : Hid (Below w.heap.size w w1) := (below_two _ _ _).trans (hb1.mono (by simp; omega))
  have HO := Lib.hid ho
  have hgw : w.heap.size ≤ g := by omega
  have n1 : w.heap.size ≠ g := by omega
  have n2 : w.heap.size + 1 ≠ g := by omega
  have n3 : g ≠ w.heap.size := by omega
  have n4 : g ≠ w.heap.size + 1 := by omega
  have n5 : w.heap.size + 1 ≠ w.heap.size := by omega
  have n6 : w.heap.size ≠ w.heap.size + 1 := by omega
  have HT := Lib.hid BT
  have HR := Lib.hid BR
  obtain ⟨_, _, _, _, _, _, _, _, _, _⟩ := BT.ten
  obtain ⟨_, _, _, _, _, _, _, _, _, _⟩ := BT.tenf
  clear BT BR hb1 ho hg
  go_wp2_with fail
  refine (find_42y g la c7 w.heap.size up k x y u v ww r res _ HO.out HL.out HT.out n3 hu hv hw hr hm HE.out).mono ?_
  rintro e w2 ⟨rfl, ho2, BT2, ht2⟩
  have hs2 := ht2.size
  have HO2 := Lib.hid ho2
  have HT2 := Lib.hid BT2
  have HR2 := Lib.hid (ht2.box HR.out n2 n5)
  have HB2 : Hid (Below w.heap.size w w2) := HB1.out.trans (ht2.below (by omega) hgw (Nat.le_refl _))
  have hg2 := ho2.1
  have hs3 : w.heap.size + 1 < w2.heap.size := by omega
  obtain ⟨_, _, _, _, _, _, _, _, _, _⟩ := BT2.ten
  obtain ⟨_, _, _, _, _, _, _, _, _, _⟩ := BT2.tenf
  clear ho2 BT2 ht2
  obtain ⟨_, _, _, _, _, _, _, _, _, _⟩ := HR2.out.ten
  obtain ⟨_, _, _, _, _, _, _, _, _, _⟩ := HR2.out.tenf
  go_wp2_with fail
  go_region
  go_wp2_with fail
  refine bodyPost_ret (v := .tuple #[.slice (some ⟨g, 0, none⟩) la c7, .agg #[.int .i64 (k : Int), .int .i64 (x : Int), .int .i64 (y : Int), .int .i64 4, .int .i64 (u : Int), .int .i64 (ww : Int), .int .i64 (ww : Int), .int .i64 (r : Int), .bool false, .int .i64 (res : Int)]]) (by simp only [results, Tryd.results73]; go_simp) rfl ⟨_, _, rfl, hgw, ?_, ?_⟩
  · refine Own.drew1 ?_; (repeat refine Own.setOther ?_ (by assumption) _); exact HO2.out
  · refine Below.drew ?_; (repeat refine Below.setCell ?_ (by first | assumption | exact Nat.le_refl _ | exact Nat.le_succ _) _); exact HB2.out

set_option maxRecDepth 100000 in
set_option maxHeartbeats 2000000 in
theorem step_6n (a b : Option Addr) (la ca cb : Nat) (pr : List Int) (up : List Nat) (k x y u v ww r res : Nat) (w : World) {lo hi lo2 hi2 : Nat}
    (hp : RowN lo hi w a la up) (hhi : hi ≤ w.heap.size) (hq : Row lo2 hi2 w b la pr) (hhi2 : hi2 ≤ w.heap.size) (hu : u < la) (hv : v < la) (hw : ww < la) (hr : r < la) (hm : la ≤ 1000000) (e : el up v ≠ ww) :
    Calls Tryd.prog 73 #[.slice a la ca, .slice b la cb, .agg #[.int .i64 (k : Int), .int .i64 (x : Int), .int .i64 (y : Int), .int .i64 6, .int .i64 (u : Int), .int .i64 (v : Int), .int .i64 (ww : Int), .int .i64 (r : Int), .bool false, .int .i64 (res : Int)]] w fun e w' =>
      ∃ g c, e = .returned (.tuple #[.slice (some ⟨g, 0, none⟩) la c, .agg #[.int .i64 (k : Int), .int .i64 (x : Int), .int .i64 (y : Int), .int .i64 4, .int .i64 (u : Int), .int .i64 (ww : Int), .int .i64 (ww : Int), .int .i64 (r : Int), .bool false, .int .i64 (res : Int)]]) ∧ w.heap.size ≤ g ∧ Own w' g (up) ∧ Below w.heap.size w w' := by
  have HL := Lib.hid hp.1
  have HP := Lib.hid hp
  have HQ := Lib.hid hq
  clear hp hq
  have HE := Lib.hid e
  clear e
  go_enter Tryd.func73, Tryd.ntmps73
  go_wp2_with fail
  refine (clone_own _ _ _ up _ ((HP.out.alloc hhi _).alloc (by simp; omega) _) (by simp; omega) (by omega) hm).mono ?_
  rintro e w1 ⟨g, c7, rfl, hg, ho, hb1⟩
  have BT := ((Box.new w 81 [.int .i64 (k : Int), .int .i64 (x : Int), .int .i64 (y : Int), .int .i64 6, .int .i64 (u : Int), .int .i64 (v : Int), .int .i64 (ww : Int), .int .i64 (r : Int), .bool false, .int .i64 (res : Int)]).alloc (.cells #[.int .i64 0, .int .i64 0, .int .i64 0, .int .i64 0, .int .i64 0, .int .i64 0, .int .i64 0, .int .i64 0, .bool false, .int .i64 0] 81)).below hb1
  have BR := (Box.new (w.alloc (.cells #[.int .i64 (k : Int), .int .i64 (x : Int), .int .i64 (y : Int), .int .i64 6, .int .i64 (u : Int), .int .i64 (v : Int), .int .i64 (ww : Int), .int .i64 (r : Int), .bool false, .int .i64 (res : Int)] 81)) 81 [.int .i64 0, .int .i64 0, .int .i64 0, .int .i64 0, .int .i64 0, .int .i64 0, .int .i64 0, .int .i64 0, .bool false, .int .i64 0]).below hb1
  rw [World.size_alloc] at BR
  rw [World.size_alloc, World.size_alloc] at hg
  have hs1 := BR.lt
  have hg1 := ho.1
  have HB1 : Hid (Below w.heap.size w w1) := (below_two _ _ _).trans (hb1.mono (by simp; omega))
  have HO := Lib.hid ho
  have hgw : w.heap.size ≤ g := by omega
  have n1 : w.heap.size ≠ g := by omega
  have n2 : w.heap.size + 1 ≠ g := by omega
  have n3 : g ≠ w.heap.size := by omega
  have n4 : g ≠ w.heap.size + 1 := by omega
  have n5 : w.heap.size + 1 ≠ w.heap.size := by omega
  have n6 : w.heap.size ≠ w.heap.size + 1 := by omega
  have HT := Lib.hid BT
  have HR := Lib.hid BR
  obtain ⟨_, _, _, _, _, _, _, _, _, _⟩ := BT.ten
  obtain ⟨_, _, _, _, _, _, _, _, _, _⟩ := BT.tenf
  clear BT BR hb1 ho hg
  go_wp2_with fail
  refine (find_42n g la c7 w.heap.size up k x y u v ww r res _ HO.out HL.out HT.out n3 hu hv hw hr hm HE.out).mono ?_
  rintro e w2 ⟨rfl, ho2, BT2, ht2⟩
  have hs2 := ht2.size
  have HO2 := Lib.hid ho2
  have HT2 := Lib.hid BT2
  have HR2 := Lib.hid (ht2.box HR.out n2 n5)
  have HB2 : Hid (Below w.heap.size w w2) := HB1.out.trans (ht2.below (by omega) hgw (Nat.le_refl _))
  have hg2 := ho2.1
  have hs3 : w.heap.size + 1 < w2.heap.size := by omega
  obtain ⟨_, _, _, _, _, _, _, _, _, _⟩ := BT2.ten
  obtain ⟨_, _, _, _, _, _, _, _, _, _⟩ := BT2.tenf
  clear ho2 BT2 ht2
  obtain ⟨_, _, _, _, _, _, _, _, _, _⟩ := HR2.out.ten
  obtain ⟨_, _, _, _, _, _, _, _, _, _⟩ := HR2.out.tenf
  go_wp2_with fail
  go_region
  go_wp2_with fail
  refine bodyPost_ret (v := .tuple #[.slice (some ⟨g, 0, none⟩) la c7, .agg #[.int .i64 (k : Int), .int .i64 (x : Int), .int .i64 (y : Int), .int .i64 4, .int .i64 (u : Int), .int .i64 (ww : Int), .int .i64 (ww : Int), .int .i64 (r : Int), .bool false, .int .i64 (res : Int)]]) (by simp only [results, Tryd.results73]; go_simp) rfl ⟨_, _, rfl, hgw, ?_, ?_⟩
  · refine Own.drew1 ?_; (repeat refine Own.setOther ?_ (by assumption) _); exact HO2.out
  · refine Below.drew ?_; (repeat refine Below.setCell ?_ (by first | assumption | exact Nat.le_refl _ | exact Nat.le_succ _) _); exact HB2.out

set_option maxRecDepth 100000 in
set_option maxHeartbeats 2000000 in
theorem step_4r (a b : Option Addr) (la ca cb : Nat) (pr : List Int) (up : List Nat) (k x y u v ww r res : Nat) (w : World) (st' : Int) (dn' : Bool) (res' : Int) {lo hi lo2 hi2 : Nat}
    (hp : RowN lo hi w a la up) (hhi : hi ≤ w.heap.size) (hq : Row lo2 hi2 w b la pr) (hhi2 : hi2 ≤ w.heap.size) (hu : u < la) (hv : v < la) (hw : ww < la) (hr : r < la) (hm : la ≤ 1000000) (e : el up v = v) (h : Snd k u v 4 false res st' dn' res') :
    Calls Tryd.prog 73 #[.slice a la ca, .slice b la cb, .agg #[.int .i64 (k : Int), .int .i64 (x : Int), .int .i64 (y : Int), .int .i64 4, .int .i64 (u : Int), .int .i64 (v : Int), .int .i64 (ww : Int), .int .i64 (r : Int), .bool false, .int .i64 (res : Int)]] w fun e w' =>
      ∃ g c, e = .returned (.tuple #[.slice (some ⟨g, 0, none⟩) la c, .agg #[.int .i64 (k : Int), .int .i64 (x : Int), .int .i64 (y : Int), .int .i64 st', .int .i64 (u : Int), .int .i64 (v : Int), .int .i64 (v : Int), .int .i64 (r : Int), .bool dn', .int .i64 res']]) ∧ w.heap.size ≤ g ∧ Own w' g (up) ∧ Below w.heap.size w w' := by
  have HL := Lib.hid hp.1
  have HP := Lib.hid hp
  have HQ := Lib.hid hq
  clear hp hq
  have HE := Lib.hid e
  have HF := Lib.hid h
  clear e h
  go_enter Tryd.func73, Tryd.ntmps73
  go_wp2_with fail
  refine (clone_own _ _ _ up _ ((HP.out.alloc hhi _).alloc (by simp; omega) _) (by simp; omega) (by omega) hm).mono ?_
  rintro e w1 ⟨g, c7, rfl, hg, ho, hb1⟩
  have BT := ((Box.new w 81 [.int .i64 (k : Int), .int .i64 (x : Int), .int .i64 (y : Int), .int .i64 4, .int .i64 (u : Int), .int .i64 (v : Int), .int .i64 (ww : Int), .int .i64 (r : Int), .bool false, .int .i64 (res : Int)]).alloc (.cells #[.int .i64 0, .int .i64 0, .int .i64 0, .int .i64 0, .int .i64 0, .int .i64 0, .int .i64 0, .int .i64 0, .bool false, .int .i64 0] 81)).below hb1
  have BR := (Box.new (w.alloc (.cells #[.int .i64 (k : Int), .int .i64 (x : Int), .int .i64 (y : Int), .int .i64 4, .int .i64 (u : Int), .int .i64 (v : Int), .int .i64 (ww : Int), .int .i64 (r : Int), .bool false, .int .i64 (res : Int)] 81)) 81 [.int .i64 0, .int .i64 0, .int .i64 0, .int .i64 0, .int .i64 0, .int .i64 0, .int .i64 0, .int .i64 0, .bool false, .int .i64 0]).below hb1
  rw [World.size_alloc] at BR
  rw [World.size_alloc, World.size_alloc] at hg
  have hs1 := BR.lt
  have hg1 := ho.1
  have HB1 : Hid (Below w.heap.size w w1) := (below_two _ _ _).trans (hb1.mono (by simp; omega))
  have HO := Lib.hid ho
  have hgw : w.heap.size ≤ g := by omega
  have n1 : w.heap.size ≠ g := by omega
  have n2 : w.heap.size + 1 ≠ g := by omega
  have n3 : g ≠ w.heap.size := by omega
  have n4 : g ≠ w.heap.size + 1 := by omega
  have n5 : w.heap.size + 1 ≠ w.heap.size := by omega
  have n6 : w.heap.size ≠ w.heap.size + 1 := by omega
  have HT := Lib.hid BT
  have HR := Lib.hid BR
  obtain ⟨_, _, _, _, _, _, _, _, _, _⟩ := BT.ten
  obtain ⟨_, _, _, _, _, _, _, _, _, _⟩ := BT.tenf
  clear BT BR hb1 ho hg
  go_wp2_with fail
  refine (find_40y g la c7 w.heap.size up k x y u v ww r res _ HO.out HL.out HT.out n3 hu hv hw hr hm HE.out).mono ?_
  rintro e w2 ⟨rfl, ho2, BT2, ht2⟩
  have hs2 := ht2.size
  have HO2 := Lib.hid ho2
  have HT2 := Lib.hid BT2
  have HR2 := Lib.hid (ht2.box HR.out n2 n5)
  have HB2 : Hid (Below w.heap.size w w2) := HB1.out.trans (ht2.below (by omega) hgw (Nat.le_refl _))
  have hg2 := ho2.1
  have hs3 : w.heap.size + 1 < w2.heap.size := by omega
  obtain ⟨_, _, _, _, _, _, _, _, _, _⟩ := BT2.ten
  obtain ⟨_, _, _, _, _, _, _, _, _, _⟩ := BT2.tenf
  clear ho2 BT2 ht2
  have H1 : Hid (∀ q0 ∈ ([.int .i64 (k : Int), .int .i64 (x : Int), .int .i64 (y : Int), .int .i64 st', .int .i64 (u : Int), .int .i64 (v : Int), .int .i64 (v : Int), .int .i64 (r : Int), .bool dn', .int .i64 res'] : List Value), q0.oneCell' = true) := by intro q0 hv; simp at hv; rcases hv with rfl | rfl | rfl | rfl | rfl | rfl | rfl | rfl | rfl | rfl <;> rfl
  go_wp2_with fail
  refine (second_v _ _ _ _ _ _ _ _ _ _ st' dn' res' _ HF.out).mono ?_
  rintro e w3 ⟨rfl, hb3⟩
  have hs4 := hb3.size
  have HT3 := Lib.hid (HT2.out.below hb3)
  have HR3 := Lib.hid (HR2.out.below hb3)
  have HO3 := Lib.hid (HO2.out.below hb3 hg2)
  have HB3 : Hid (Below w.heap.size w w3) := HB2.out.trans (hb3.mono (by omega))
  have hs5 : w.heap.size < w3.heap.size := by omega
  clear hb3
  go_wp2_with (refine wpList_store_box rfl 81 _ _ rfl w.heap.size [.int .i64 (k : Int), .int .i64 (x : Int), .int .i64 (y : Int), .int .i64 st', .int .i64 (u : Int), .int .i64 (v : Int), .int .i64 (v : Int), .int .i64 (r : Int), .bool dn', .int .i64 res'] rfl rfl 81 _ HT3.out Tryd.taskSize rfl H1.out ?_; intro w4 BT4 ht4)
  have HO4 := Lib.hid (ht4.own HO3.out n3 n3)
  have BR4 := ht4.box HR3.out n5 n5
  have HB4 : Hid (Below w.heap.size w w4) := Below.trans HB3.out (ht4.below (by omega) (Nat.le_refl _) (Nat.le_refl _))
  have hs6 := BR4.lt
  obtain ⟨_, _, _, _, _, _, _, _, _, _⟩ := BT4.ten
  obtain ⟨_, _, _, _, _, _, _, _, _, _⟩ := BT4.tenf
  obtain ⟨_, _, _, _, _, _, _, _, _, _⟩ := BR4.ten
  obtain ⟨_, _, _, _, _, _, _, _, _, _⟩ := BR4.tenf
  clear BT4 BR4 ht4
  go_region
  go_wp2_with fail
  refine bodyPost_ret (v := .tuple #[.slice (some ⟨g, 0, none⟩) la c7, .agg #[.int .i64 (k : Int), .int .i64 (x : Int), .int .i64 (y : Int), .int .i64 st', .int .i64 (u : Int), .int .i64 (v : Int), .int .i64 (v : Int), .int .i64 (r : Int), .bool dn', .int .i64 res']]) (by simp only [results, Tryd.results73]; go_simp) rfl ⟨_, _, rfl, hgw, ?_, ?_⟩
  · refine Own.drew1 ?_; (repeat refine Own.setOther ?_ (by assumption) _); exact HO4.out
  · refine Below.drew ?_; (repeat refine Below.setCell ?_ (by first | assumption | exact Nat.le_refl _ | exact Nat.le_succ _) _); exact HB4.out

end Go.Proofs.YtpfcpeljfgmjgaaDoor

namespace Go.Proofs.YtpfcpeljfgmjgaaDoor
open Go.RowKit
set_option linter.unusedVariables false
set_option linter.unusedSimpArgs false

set_option maxRecDepth 100000 in
set_option maxHeartbeats 2000000 in
theorem step_4n (a b : Option Addr) (la ca cb : Nat) (pr : List Int) (up : List Nat) (k x y u v ww r res : Nat) (w : World) {lo hi lo2 hi2 : Nat}
    (hp : RowN lo hi w a la up) (hhi : hi ≤ w.heap.size) (hq : Row lo2 hi2 w b la pr) (hhi2 : hi2 ≤ w.heap.size) (hu : u < la) (hv : v < la) (hw : ww < la) (hr : r < la) (hm : la ≤ 1000000) (e : el up v ≠ v) :
    Calls Tryd.prog 73 #[.slice a la ca, .slice b la cb, .agg #[.int .i64 (k : Int), .int .i64 (x : Int), .int .i64 (y : Int), .int .i64 4, .int .i64 (u : Int), .int .i64 (v : Int), .int .i64 (ww : Int), .int .i64 (r : Int), .bool false, .int .i64 (res : Int)]] w fun e w' =>
      ∃ g c, e = .returned (.tuple #[.slice (some ⟨g, 0, none⟩) la c, .agg #[.int .i64 (k : Int), .int .i64 (x : Int), .int .i64 (y : Int), .int .i64 5, .int .i64 (u : Int), .int .i64 (v : Int), .int .i64 (el up v : Int), .int .i64 (r : Int), .bool false, .int .i64 (res : Int)]]) ∧ w.heap.size ≤ g ∧ Own w' g (up) ∧ Below w.heap.size w w' := by
  have HL := Lib.hid hp.1
  have HP := Lib.hid hp
  have HQ := Lib.hid hq
  clear hp hq
  obtain ⟨q, hq⟩ : ∃ q, el up v = q := ⟨_, rfl⟩
  have HE := Lib.hid e
  rw [hq]
  have HQE := Lib.hid hq
  clear e hq
  go_enter Tryd.func73, Tryd.ntmps73
  go_wp2_with fail
  refine (clone_own _ _ _ up _ ((HP.out.alloc hhi _).alloc (by simp; omega) _) (by simp; omega) (by omega) hm).mono ?_
  rintro e w1 ⟨g, c7, rfl, hg, ho, hb1⟩
  have BT := ((Box.new w 81 [.int .i64 (k : Int), .int .i64 (x : Int), .int .i64 (y : Int), .int .i64 4, .int .i64 (u : Int), .int .i64 (v : Int), .int .i64 (ww : Int), .int .i64 (r : Int), .bool false, .int .i64 (res : Int)]).alloc (.cells #[.int .i64 0, .int .i64 0, .int .i64 0, .int .i64 0, .int .i64 0, .int .i64 0, .int .i64 0, .int .i64 0, .bool false, .int .i64 0] 81)).below hb1
  have BR := (Box.new (w.alloc (.cells #[.int .i64 (k : Int), .int .i64 (x : Int), .int .i64 (y : Int), .int .i64 4, .int .i64 (u : Int), .int .i64 (v : Int), .int .i64 (ww : Int), .int .i64 (r : Int), .bool false, .int .i64 (res : Int)] 81)) 81 [.int .i64 0, .int .i64 0, .int .i64 0, .int .i64 0, .int .i64 0, .int .i64 0, .int .i64 0, .int .i64 0, .bool false, .int .i64 0]).below hb1
  rw [World.size_alloc] at BR
  rw [World.size_alloc, World.size_alloc] at hg
  have hs1 := BR.lt
  have hg1 := ho.1
  have HB1 : Hid (Below w.heap.size w w1) := (below_two _ _ _).trans (hb1.mono (by simp; omega))
  have HO := Lib.hid ho
  have hgw : w.heap.size ≤ g := by omega
  have n1 : w.heap.size ≠ g := by omega
  have n2 : w.heap.size + 1 ≠ g := by omega
  have n3 : g ≠ w.heap.size := by omega
  have n4 : g ≠ w.heap.size + 1 := by omega
  have n5 : w.heap.size + 1 ≠ w.heap.size := by omega
  have n6 : w.heap.size ≠ w.heap.size + 1 := by omega
  have HT := Lib.hid BT
  have HR := Lib.hid BR
  obtain ⟨_, _, _, _, _, _, _, _, _, _⟩ := BT.ten
  obtain ⟨_, _, _, _, _, _, _, _, _, _⟩ := BT.tenf
  clear BT BR hb1 ho hg
  go_wp2_with fail
  refine (find_40n g la c7 w.heap.size up k x y u v ww r res _ HO.out HL.out HT.out n3 hu hv hw hr hm HE.out).mono ?_
  rw [HQE.out]
  rintro e w2 ⟨rfl, ho2, BT2, ht2⟩
  have hs2 := ht2.size
  have HO2 := Lib.hid ho2
  have HT2 := Lib.hid BT2
  have HR2 := Lib.hid (ht2.box HR.out n2 n5)
  have HB2 : Hid (Below w.heap.size w w2) := HB1.out.trans (ht2.below (by omega) hgw (Nat.le_refl _))
  have hg2 := ho2.1
  have hs3 : w.heap.size + 1 < w2.heap.size := by omega
  obtain ⟨_, _, _, _, _, _, _, _, _, _⟩ := BT2.ten
  obtain ⟨_, _, _, _, _, _, _, _, _, _⟩ := BT2.tenf
  clear ho2 BT2 ht2
  obtain ⟨_, _, _, _, _, _, _, _, _, _⟩ := HR2.out.ten
  obtain ⟨_, _, _, _, _, _, _, _, _, _⟩ := HR2.out.tenf
  go_wp2_with fail
  go_region
  go_wp2_with fail
  refine bodyPost_ret (v := .tuple #[.slice (some ⟨g, 0, none⟩) la c7, .agg #[.int .i64 (k : Int), .int .i64 (x : Int), .int .i64 (y : Int), .int .i64 5, .int .i64 (u : Int), .int .i64 (v : Int), .int .i64 (q : Int), .int .i64 (r : Int), .bool false, .int .i64 (res : Int)]]) (by simp only [results, Tryd.results73]; go_simp) rfl ⟨_, _, rfl, hgw, ?_, ?_⟩
  · refine Own.drew1 ?_; (repeat refine Own.setOther ?_ (by assumption) _); exact HO2.out
  · refine Below.drew ?_; (repeat refine Below.setCell ?_ (by first | assumption | exact Nat.le_refl _ | exact Nat.le_succ _) _); exact HB2.out

set_option maxRecDepth 100000 in
set_option maxHeartbeats 2000000 in
theorem step_5r (a b : Option Addr) (la ca cb : Nat) (pr : List Int) (up : List Nat) (k x y u v ww r res : Nat) (w : World) (st' : Int) (dn' : Bool) (res' : Int) {lo hi lo2 hi2 : Nat}
    (hp : RowN lo hi w a la up) (hhi : hi ≤ w.heap.size) (hq : Row lo2 hi2 w b la pr) (hhi2 : hi2 ≤ w.heap.size) (hu : u < la) (hv : v < la) (hw : ww < la) (hr : r < la) (hm : la ≤ 1000000) (e : el up ww = ww) (h : Snd k u ww 5 false res st' dn' res') :
    Calls Tryd.prog 73 #[.slice a la ca, .slice b la cb, .agg #[.int .i64 (k : Int), .int .i64 (x : Int), .int .i64 (y : Int), .int .i64 5, .int .i64 (u : Int), .int .i64 (v : Int), .int .i64 (ww : Int), .int .i64 (r : Int), .bool false, .int .i64 (res : Int)]] w fun e w' =>
      ∃ g c, e = .returned (.tuple #[.slice (some ⟨g, 0, none⟩) la c, .agg #[.int .i64 (k : Int), .int .i64 (x : Int), .int .i64 (y : Int), .int .i64 st', .int .i64 (u : Int), .int .i64 (ww : Int), .int .i64 (ww : Int), .int .i64 (ww : Int), .bool dn', .int .i64 res']]) ∧ w.heap.size ≤ g ∧ Own w' g (up) ∧ Below w.heap.size w w' := by
  have HL := Lib.hid hp.1
  have HP := Lib.hid hp
  have HQ := Lib.hid hq
  clear hp hq
  have HE := Lib.hid e
  have HF := Lib.hid h
  clear e h
  go_enter Tryd.func73, Tryd.ntmps73
  go_wp2_with fail
  refine (clone_own _ _ _ up _ ((HP.out.alloc hhi _).alloc (by simp; omega) _) (by simp; omega) (by omega) hm).mono ?_
  rintro e w1 ⟨g, c7, rfl, hg, ho, hb1⟩
  have BT := ((Box.new w 81 [.int .i64 (k : Int), .int .i64 (x : Int), .int .i64 (y : Int), .int .i64 5, .int .i64 (u : Int), .int .i64 (v : Int), .int .i64 (ww : Int), .int .i64 (r : Int), .bool false, .int .i64 (res : Int)]).alloc (.cells #[.int .i64 0, .int .i64 0, .int .i64 0, .int .i64 0, .int .i64 0, .int .i64 0, .int .i64 0, .int .i64 0, .bool false, .int .i64 0] 81)).below hb1
  have BR := (Box.new (w.alloc (.cells #[.int .i64 (k : Int), .int .i64 (x : Int), .int .i64 (y : Int), .int .i64 5, .int .i64 (u : Int), .int .i64 (v : Int), .int .i64 (ww : Int), .int .i64 (r : Int), .bool false, .int .i64 (res : Int)] 81)) 81 [.int .i64 0, .int .i64 0, .int .i64 0, .int .i64 0, .int .i64 0, .int .i64 0, .int .i64 0, .int .i64 0, .bool false, .int .i64 0]).below hb1
  rw [World.size_alloc] at BR
  rw [World.size_alloc, World.size_alloc] at hg
  have hs1 := BR.lt
  have hg1 := ho.1
  have HB1 : Hid (Below w.heap.size w w1) := (below_two _ _ _).trans (hb1.mono (by simp; omega))
  have HO := Lib.hid ho
  have hgw : w.heap.size ≤ g := by omega
  have n1 : w.heap.size ≠ g := by omega
  have n2 : w.heap.size + 1 ≠ g := by omega
  have n3 : g ≠ w.heap.size := by omega
  have n4 : g ≠ w.heap.size + 1 := by omega
  have n5 : w.heap.size + 1 ≠ w.heap.size := by omega
  have n6 : w.heap.size ≠ w.heap.size + 1 := by omega
  have HT := Lib.hid BT
  have HR := Lib.hid BR
  obtain ⟨_, _, _, _, _, _, _, _, _, _⟩ := BT.ten
  obtain ⟨_, _, _, _, _, _, _, _, _, _⟩ := BT.tenf
  clear BT BR hb1 ho hg
  go_wp2_with fail
  refine (find_41y g la c7 w.heap.size up k x y u v ww r res _ HO.out HL.out HT.out n3 hu hv hw hr hm HE.out).mono ?_
  rintro e w2 ⟨rfl, ho2, BT2, ht2⟩
  have hs2 := ht2.size
  have HO2 := Lib.hid ho2
  have HT2 := Lib.hid BT2
  have HR2 := Lib.hid (ht2.box HR.out n2 n5)
  have HB2 : Hid (Below w.heap.size w w2) := HB1.out.trans (ht2.below (by omega) hgw (Nat.le_refl _))
  have hg2 := ho2.1
  have hs3 : w.heap.size + 1 < w2.heap.size := by omega
  obtain ⟨_, _, _, _, _, _, _, _, _, _⟩ := BT2.ten
  obtain ⟨_, _, _, _, _, _, _, _, _, _⟩ := BT2.tenf
  clear ho2 BT2 ht2
  have H1 : Hid (∀ q0 ∈ ([.int .i64 (k : Int), .int .i64 (x : Int), .int .i64 (y : Int), .int .i64 st', .int .i64 (u : Int), .int .i64 (ww : Int), .int .i64 (ww : Int), .int .i64 (ww : Int), .bool dn', .int .i64 res'] : List Value), q0.oneCell' = true) := by intro q0 hv; simp at hv; rcases hv with rfl | rfl | rfl | rfl | rfl | rfl | rfl | rfl | rfl | rfl <;> rfl
  go_wp2_with fail
  refine (second_v _ _ _ _ _ _ _ _ _ _ st' dn' res' _ HF.out).mono ?_
  rintro e w3 ⟨rfl, hb3⟩
  have hs4 := hb3.size
  have HT3 := Lib.hid (HT2.out.below hb3)
  have HR3 := Lib.hid (HR2.out.below hb3)
  have HO3 := Lib.hid (HO2.out.below hb3 hg2)
  have HB3 : Hid (Below w.heap.size w w3) := HB2.out.trans (hb3.mono (by omega))
  have hs5 : w.heap.size < w3.heap.size := by omega
  clear hb3
  go_wp2_with (refine wpList_store_box rfl 81 _ _ rfl w.heap.size [.int .i64 (k : Int), .int .i64 (x : Int), .int .i64 (y : Int), .int .i64 st', .int .i64 (u : Int), .int .i64 (ww : Int), .int .i64 (ww : Int), .int .i64 (ww : Int), .bool dn', .int .i64 res'] rfl rfl 81 _ HT3.out Tryd.taskSize rfl H1.out ?_; intro w4 BT4 ht4)
  have HO4 := Lib.hid (ht4.own HO3.out n3 n3)
  have BR4 := ht4.box HR3.out n5 n5
  have HB4 : Hid (Below w.heap.size w w4) := Below.trans HB3.out (ht4.below (by omega) (Nat.le_refl _) (Nat.le_refl _))
  have hs6 := BR4.lt
  obtain ⟨_, _, _, _, _, _, _, _, _, _⟩ := BT4.ten
  obtain ⟨_, _, _, _, _, _, _, _, _, _⟩ := BT4.tenf
  obtain ⟨_, _, _, _, _, _, _, _, _, _⟩ := BR4.ten
  obtain ⟨_, _, _, _, _, _, _, _, _, _⟩ := BR4.tenf
  clear BT4 BR4 ht4
  go_region
  go_wp2_with fail
  refine bodyPost_ret (v := .tuple #[.slice (some ⟨g, 0, none⟩) la c7, .agg #[.int .i64 (k : Int), .int .i64 (x : Int), .int .i64 (y : Int), .int .i64 st', .int .i64 (u : Int), .int .i64 (ww : Int), .int .i64 (ww : Int), .int .i64 (ww : Int), .bool dn', .int .i64 res']]) (by simp only [results, Tryd.results73]; go_simp) rfl ⟨_, _, rfl, hgw, ?_, ?_⟩
  · refine Own.drew1 ?_; (repeat refine Own.setOther ?_ (by assumption) _); exact HO4.out
  · refine Below.drew ?_; (repeat refine Below.setCell ?_ (by first | assumption | exact Nat.le_refl _ | exact Nat.le_succ _) _); exact HB4.out

set_option maxRecDepth 100000 in
set_option maxHeartbeats 2000000 in
theorem step_5n (a b : Option Addr) (la ca cb : Nat) (pr : List Int) (up : List Nat) (k x y u v ww r res : Nat) (w : World) {lo hi lo2 hi2 : Nat}
    (hp : RowN lo hi w a la up) (hhi : hi ≤ w.heap.size) (hq : Row lo2 hi2 w b la pr) (hhi2 : hi2 ≤ w.heap.size) (hu : u < la) (hv : v < la) (hw : ww < la) (hr : r < la) (hm : la ≤ 1000000) (e : el up ww ≠ ww) :
    Calls Tryd.prog 73 #[.slice a la ca, .slice b la cb, .agg #[.int .i64 (k : Int), .int .i64 (x : Int), .int .i64 (y : Int), .int .i64 5, .int .i64 (u : Int), .int .i64 (v : Int), .int .i64 (ww : Int), .int .i64 (r : Int), .bool false, .int .i64 (res : Int)]] w fun e w' =>
      ∃ g c, e = .returned (.tuple #[.slice (some ⟨g, 0, none⟩) la c, .agg #[.int .i64 (k : Int), .int .i64 (x : Int), .int .i64 (y : Int), .int .i64 6, .int .i64 (u : Int), .int .i64 (v : Int), .int .i64 (ww : Int), .int .i64 (el up ww : Int), .bool false, .int .i64 (res : Int)]]) ∧ w.heap.size ≤ g ∧ Own w' g (up) ∧ Below w.heap.size w w' := by
  have HL := Lib.hid hp.1
  have HP := Lib.hid hp
  have HQ := Lib.hid hq
  clear hp hq
  obtain ⟨q, hq⟩ : ∃ q, el up ww = q := ⟨_, rfl⟩
  have HE := Lib.hid e
  rw [hq]
  have HQE := Lib.hid hq
  clear e hq
  go_enter Tryd.func73, Tryd.ntmps73
  go_wp2_with fail
  refine (clone_own _ _ _ up _ ((HP.out.alloc hhi _).alloc (by simp; omega) _) (by simp; omega) (by omega) hm).mono ?_
  rintro e w1 ⟨g, c7, rfl, hg, ho, hb1⟩
  have BT := ((Box.new w 81 [.int .i64 (k : Int), .int .i64 (x : Int), .int .i64 (y : Int), .int .i64 5, .int .i64 (u : Int), .int .i64 (v : Int), .int .i64 (ww : Int), .int .i64 (r : Int), .bool false, .int .i64 (res : Int)]).alloc (.cells #[.int .i64 0, .int .i64 0, .int .i64 0, .int .i64 0, .int .i64 0, .int .i64 0, .int .i64 0, .int .i64 0, .bool false, .int .i64 0] 81)).below hb1
  have BR := (Box.new (w.alloc (.cells #[.int .i64 (k : Int), .int .i64 (x : Int), .int .i64 (y : Int), .int .i64 5, .int .i64 (u : Int), .int .i64 (v : Int), .int .i64 (ww : Int), .int .i64 (r : Int), .bool false, .int .i64 (res : Int)] 81)) 81 [.int .i64 0, .int .i64 0, .int .i64 0, .int .i64 0, .int .i64 0, .int .i64 0, .int .i64 0, .int .i64 0, .bool false, .int .i64 0]).below hb1
  rw [World.size_alloc] at BR
  rw [World.size_alloc, World.size_alloc] at hg
  have hs1 := BR.lt
  have hg1 := ho.1
  have HB1 : Hid (Below w.heap.size w w1) := (below_two _ _ _).trans (hb1.mono (by simp; omega))
  have HO := Lib.hid ho
  have hgw : w.heap.size ≤ g := by omega
  have n1 : w.heap.size ≠ g := by omega
  have n2 : w.heap.size + 1 ≠ g := by omega
  have n3 : g ≠ w.heap.size := by omega
  have n4 : g ≠ w.heap.size + 1 := by omega
  have n5 : w.heap.size + 1 ≠ w.heap.size := by omega
  have n6 : w.heap.size ≠ w.heap.size + 1 := by omega
  have HT := Lib.hid BT
  have HR := Lib.hid BR
  obtain ⟨_, _, _, _, _, _, _, _, _, _⟩ := BT.ten
  obtain ⟨_, _, _, _, _, _, _, _, _, _⟩ := BT.tenf
  clear BT BR hb1 ho hg
  go_wp2_with fail
  refine (find_41n g la c7 w.heap.size up k x y u v ww r res _ HO.out HL.out HT.out n3 hu hv hw hr hm HE.out).mono ?_
  rw [HQE.out]
  rintro e w2 ⟨rfl, ho2, BT2, ht2⟩
  have hs2 := ht2.size
  have HO2 := Lib.hid ho2
  have HT2 := Lib.hid BT2
  have HR2 := Lib.hid (ht2.box HR.out n2 n5)
  have HB2 : Hid (Below w.heap.size w w2) := HB1.out.trans (ht2.below (by omega) hgw (Nat.le_refl _))
  have hg2 := ho2.1
  have hs3 : w.heap.size + 1 < w2.heap.size := by omega
  obtain ⟨_, _, _, _, _, _, _, _, _, _⟩ := BT2.ten
  obtain ⟨_, _, _, _, _, _, _, _, _, _⟩ := BT2.tenf
  clear ho2 BT2 ht2
  obtain ⟨_, _, _, _, _, _, _, _, _, _⟩ := HR2.out.ten
  obtain ⟨_, _, _, _, _, _, _, _, _, _⟩ := HR2.out.tenf
  go_wp2_with fail
  go_region
  go_wp2_with fail
  refine bodyPost_ret (v := .tuple #[.slice (some ⟨g, 0, none⟩) la c7, .agg #[.int .i64 (k : Int), .int .i64 (x : Int), .int .i64 (y : Int), .int .i64 6, .int .i64 (u : Int), .int .i64 (v : Int), .int .i64 (ww : Int), .int .i64 (q : Int), .bool false, .int .i64 (res : Int)]]) (by simp only [results, Tryd.results73]; go_simp) rfl ⟨_, _, rfl, hgw, ?_, ?_⟩
  · refine Own.drew1 ?_; (repeat refine Own.setOther ?_ (by assumption) _); exact HO2.out
  · refine Below.drew ?_; (repeat refine Below.setCell ?_ (by first | assumption | exact Nat.le_refl _ | exact Nat.le_succ _) _); exact HB2.out

set_option maxRecDepth 100000 in
set_option maxHeartbeats 2000000 in
theorem step_7y (a b : Option Addr) (la ca cb : Nat) (pr : List Int) (up : List Nat) (k x y u v ww r res : Nat) (w : World) {lo hi lo2 hi2 : Nat}
    (hp : RowN lo hi w a la up) (hhi : hi ≤ w.heap.size) (hq : Row lo2 hi2 w b la pr) (hhi2 : hi2 ≤ w.heap.size) (hu : u < la) (hv : v < la) (hw : ww < la) (hr : r < la) (hm : la ≤ 1000000) (e : el up u = u) :
    Calls Tryd.prog 73 #[.slice a la ca, .slice b la cb, .agg #[.int .i64 (k : Int), .int .i64 (x : Int), .int .i64 (y : Int), .int .i64 7, .int .i64 (u : Int), .int .i64 (v : Int), .int .i64 (ww : Int), .int .i64 (r : Int), .bool false, .int .i64 (res : Int)]] w fun e w' =>
      ∃ g c, e = .returned (.tuple #[.slice (some ⟨g, 0, none⟩) la c, .agg #[.int .i64 (k : Int), .int .i64 (x : Int), .int .i64 (y : Int), .int .i64 7, .int .i64 (u : Int), .int .i64 (v : Int), .int .i64 (u : Int), .int .i64 (r : Int), .bool true, .int .i64 0]]) ∧ w.heap.size ≤ g ∧ Own w' g (up) ∧ Below w.heap.size w w' := by
  have HL := Lib.hid hp.1
  have HP := Lib.hid hp
  have HQ := Lib.hid hq
  clear hp hq
  have HE := Lib.hid e
  clear e
  go_enter Tryd.func73, Tryd.ntmps73
  go_wp2_with fail
  refine (clone_own _ _ _ up _ ((HP.out.alloc hhi _).alloc (by simp; omega) _) (by simp; omega) (by omega) hm).mono ?_
  rintro e w1 ⟨g, c7, rfl, hg, ho, hb1⟩
  have BT := ((Box.new w 81 [.int .i64 (k : Int), .int .i64 (x : Int), .int .i64 (y : Int), .int .i64 7, .int .i64 (u : Int), .int .i64 (v : Int), .int .i64 (ww : Int), .int .i64 (r : Int), .bool false, .int .i64 (res : Int)]).alloc (.cells #[.int .i64 0, .int .i64 0, .int .i64 0, .int .i64 0, .int .i64 0, .int .i64 0, .int .i64 0, .int .i64 0, .bool false, .int .i64 0] 81)).below hb1
  have BR := (Box.new (w.alloc (.cells #[.int .i64 (k : Int), .int .i64 (x : Int), .int .i64 (y : Int), .int .i64 7, .int .i64 (u : Int), .int .i64 (v : Int), .int .i64 (ww : Int), .int .i64 (r : Int), .bool false, .int .i64 (res : Int)] 81)) 81 [.int .i64 0, .int .i64 0, .int .i64 0, .int .i64 0, .int .i64 0, .int .i64 0, .int .i64 0, .int .i64 0, .bool false, .int .i64 0]).below hb1
  rw [World.size_alloc] at BR
  rw [World.size_alloc, World.size_alloc] at hg
  have hs1 := BR.lt
  have hg1 := ho.1
  have HB1 : Hid (Below w.heap.size w w1) := (below_two _ _ _).trans (hb1.mono (by simp; omega))
  have HO := Lib.hid ho
  have hgw : w.heap.size ≤ g := by omega
  have n1 : w.heap.size ≠ g := by omega
  have n2 : w.heap.size + 1 ≠ g := by omega
  have n3 : g ≠ w.heap.size := by omega
  have n4 : g ≠ w.heap.size + 1 := by omega
  have n5 : w.heap.size + 1 ≠ w.heap.size := by omega
  have n6 : w.heap.size ≠ w.heap.size + 1 := by omega
  have HT := Lib.hid BT
  have HR := Lib.hid BR
  obtain ⟨_, _, _, _, _, _, _, _, _, _⟩ := BT.ten
  obtain ⟨_, _, _, _, _, _, _, _, _, _⟩ := BT.tenf
  clear BT BR hb1 ho hg
  have H1 : Hid (∀ q0 ∈ ([.int .i64 (k : Int), .int .i64 (x : Int), .int .i64 (y : Int), .int .i64 7, .int .i64 (u : Int), .int .i64 (v : Int), .int .i64 (u : Int), .int .i64 (r : Int), .bool true, .int .i64 0] : List Value), q0.oneCell' = true) := by intro q0 hv; simp at hv; rcases hv with rfl | rfl | rfl | rfl | rfl | rfl | rfl | rfl | rfl | rfl <;> rfl
  go_wp2_with fail
  refine (again_y g la c7 up k x y u v ww r res _ HO.out HL.out hu hm HE.out).mono ?_
  rintro e w2 ⟨rfl, hb2⟩
  have hs2 := hb2.size
  have HO2 := Lib.hid (HO.out.below hb2 hg1)
  have HT2 := Lib.hid (HT.out.below hb2)
  have HR2 := Lib.hid (HR.out.below hb2)
  have HB2 : Hid (Below w.heap.size w w2) := HB1.out.trans (hb2.mono (by omega))
  have hs3 : w.heap.size < w2.heap.size := by omega
  clear hb2
  go_wp2_with (refine wpList_store_box rfl 81 _ _ rfl w.heap.size [.int .i64 (k : Int), .int .i64 (x : Int), .int .i64 (y : Int), .int .i64 7, .int .i64 (u : Int), .int .i64 (v : Int), .int .i64 (u : Int), .int .i64 (r : Int), .bool true, .int .i64 0] rfl rfl 81 _ HT2.out Tryd.taskSize rfl H1.out ?_; intro w4 BT4 ht4)
  have HO4 := Lib.hid (ht4.own HO2.out n3 n3)
  have BR4 := ht4.box HR2.out n5 n5
  have HB4 : Hid (Below w.heap.size w w4) := Below.trans HB2.out (ht4.below (by omega) (Nat.le_refl _) (Nat.le_refl _))
  have hs6 := BR4.lt
  obtain ⟨_, _, _, _, _, _, _, _, _, _⟩ := BT4.ten
  obtain ⟨_, _, _, _, _, _, _, _, _, _⟩ := BT4.tenf
  obtain ⟨_, _, _, _, _, _, _, _, _, _⟩ := BR4.ten
  obtain ⟨_, _, _, _, _, _, _, _, _, _⟩ := BR4.tenf
  clear BT4 BR4 ht4
  go_region
  go_wp2_with fail
  refine bodyPost_ret (v := .tuple #[.slice (some ⟨g, 0, none⟩) la c7, .agg #[.int .i64 (k : Int), .int .i64 (x : Int), .int .i64 (y : Int), .int .i64 7, .int .i64 (u : Int), .int .i64 (v : Int), .int .i64 (u : Int), .int .i64 (r : Int), .bool true, .int .i64 0]]) (by simp only [results, Tryd.results73]; go_simp) rfl ⟨_, _, rfl, hgw, ?_, ?_⟩
  · refine Own.drew1 ?_; (repeat refine Own.setOther ?_ (by assumption) _); exact HO4.out
  · refine Below.drew ?_; (repeat refine Below.setCell ?_ (by first | assumption | exact Nat.le_refl _ | exact Nat.le_succ _) _); exact HB4.out

set_option maxRecDepth 100000 in
set_option maxHeartbeats 2000000 in
theorem step_7n (a b : Option Addr) (la ca cb : Nat) (pr : List Int) (up : List Nat) (k x y u v ww r res : Nat) (w : World) {lo hi lo2 hi2 : Nat}
    (hp : RowN lo hi w a la up) (hhi : hi ≤ w.heap.size) (hq : Row lo2 hi2 w b la pr) (hhi2 : hi2 ≤ w.heap.size) (hu : u < la) (hv : v < la) (hw : ww < la) (hr : r < la) (hm : la ≤ 1000000) (e : el up u ≠ u) :
    Calls Tryd.prog 73 #[.slice a la ca, .slice b la cb, .agg #[.int .i64 (k : Int), .int .i64 (x : Int), .int .i64 (y : Int), .int .i64 7, .int .i64 (u : Int), .int .i64 (v : Int), .int .i64 (ww : Int), .int .i64 (r : Int), .bool false, .int .i64 (res : Int)]] w fun e w' =>
      ∃ g c, e = .returned (.tuple #[.slice (some ⟨g, 0, none⟩) la c, .agg #[.int .i64 (k : Int), .int .i64 (x : Int), .int .i64 (y : Int), .int .i64 1, .int .i64 (u : Int), .int .i64 (v : Int), .int .i64 (el up u : Int), .int .i64 (r : Int), .bool false, .int .i64 (res : Int)]]) ∧ w.heap.size ≤ g ∧ Own w' g (up) ∧ Below w.heap.size w w' := by
  have HL := Lib.hid hp.1
  have HP := Lib.hid hp
  have HQ := Lib.hid hq
  clear hp hq
  obtain ⟨q, hq⟩ : ∃ q, el up u = q := ⟨_, rfl⟩
  have HE := Lib.hid e
  rw [hq]
  have HQE := Lib.hid hq
  clear e hq
  go_enter Tryd.func73, Tryd.ntmps73
  go_wp2_with fail
  refine (clone_own _ _ _ up _ ((HP.out.alloc hhi _).alloc (by simp; omega) _) (by simp; omega) (by omega) hm).mono ?_
  rintro e w1 ⟨g, c7, rfl, hg, ho, hb1⟩
  have BT := ((Box.new w 81 [.int .i64 (k : Int), .int .i64 (x : Int), .int .i64 (y : Int), .int .i64 7, .int .i64 (u : Int), .int .i64 (v : Int), .int .i64 (ww : Int), .int .i64 (r : Int), .bool false, .int .i64 (res : Int)]).alloc (.cells #[.int .i64 0, .int .i64 0, .int .i64 0, .int .i64 0, .int .i64 0, .int .i64 0, .int .i64 0, .int .i64 0, .bool false, .int .i64 0] 81)).below hb1
  have BR := (Box.new (w.alloc (.cells #[.int .i64 (k : Int), .int .i64 (x : Int), .int .i64 (y : Int), .int .i64 7, .int .i64 (u : Int), .int .i64 (v : Int), .int .i64 (ww : Int), .int .i64 (r : Int), .bool false, .int .i64 (res : Int)] 81)) 81 [.int .i64 0, .int .i64 0, .int .i64 0, .int .i64 0, .int .i64 0, .int .i64 0, .int .i64 0, .int .i64 0, .bool false, .int .i64 0]).below hb1
  rw [World.size_alloc] at BR
  rw [World.size_alloc, World.size_alloc] at hg
  have hs1 := BR.lt
  have hg1 := ho.1
  have HB1 : Hid (Below w.heap.size w w1) := (below_two _ _ _).trans (hb1.mono (by simp; omega))
  have HO := Lib.hid ho
  have hgw : w.heap.size ≤ g := by omega
  have n1 : w.heap.size ≠ g := by omega
  have n2 : w.heap.size + 1 ≠ g := by omega
  have n3 : g ≠ w.heap.size := by omega
  have n4 : g ≠ w.heap.size + 1 := by omega
  have n5 : w.heap.size + 1 ≠ w.heap.size := by omega
  have n6 : w.heap.size ≠ w.heap.size + 1 := by omega
  have HT := Lib.hid BT
  have HR := Lib.hid BR
  obtain ⟨_, _, _, _, _, _, _, _, _, _⟩ := BT.ten
  obtain ⟨_, _, _, _, _, _, _, _, _, _⟩ := BT.tenf
  clear BT BR hb1 ho hg
  have H1 : Hid (∀ q0 ∈ ([.int .i64 (k : Int), .int .i64 (x : Int), .int .i64 (y : Int), .int .i64 1, .int .i64 (u : Int), .int .i64 (v : Int), .int .i64 (q : Int), .int .i64 (r : Int), .bool false, .int .i64 (res : Int)] : List Value), q0.oneCell' = true) := by intro q0 hv; simp at hv; rcases hv with rfl | rfl | rfl | rfl | rfl | rfl | rfl | rfl | rfl | rfl <;> rfl
  go_wp2_with fail
  refine (again_n g la c7 up k x y u v ww r res _ HO.out HL.out hu hm HE.out).mono ?_
  rw [HQE.out]
  rintro e w2 ⟨rfl, hb2⟩
  have hs2 := hb2.size
  have HO2 := Lib.hid (HO.out.below hb2 hg1)
  have HT2 := Lib.hid (HT.out.below hb2)
  have HR2 := Lib.hid (HR.out.below hb2)
  have HB2 : Hid (Below w.heap.size w w2) := HB1.out.trans (hb2.mono (by omega))
  have hs3 : w.heap.size < w2.heap.size := by omega
  clear hb2
  go_wp2_with (refine wpList_store_box rfl 81 _ _ rfl w.heap.size [.int .i64 (k : Int), .int .i64 (x : Int), .int .i64 (y : Int), .int .i64 1, .int .i64 (u : Int), .int .i64 (v : Int), .int .i64 (q : Int), .int .i64 (r : Int), .bool false, .int .i64 (res : Int)] rfl rfl 81 _ HT2.out Tryd.taskSize rfl H1.out ?_; intro w4 BT4 ht4)
  have HO4 := Lib.hid (ht4.own HO2.out n3 n3)
  have BR4 := ht4.box HR2.out n5 n5
  have HB4 : Hid (Below w.heap.size w w4) := Below.trans HB2.out (ht4.below (by omega) (Nat.le_refl _) (Nat.le_refl _))
  have hs6 := BR4.lt
  obtain ⟨_, _, _, _, _, _, _, _, _, _⟩ := BT4.ten
  obtain ⟨_, _, _, _, _, _, _, _, _, _⟩ := BT4.tenf
  obtain ⟨_, _, _, _, _, _, _, _, _, _⟩ := BR4.ten
  obtain ⟨_, _, _, _, _, _, _, _, _, _⟩ := BR4.tenf
  clear BT4 BR4 ht4
  go_region
  go_wp2_with fail
  refine bodyPost_ret (v := .tuple #[.slice (some ⟨g, 0, none⟩) la c7, .agg #[.int .i64 (k : Int), .int .i64 (x : Int), .int .i64 (y : Int), .int .i64 1, .int .i64 (u : Int), .int .i64 (v : Int), .int .i64 (q : Int), .int .i64 (r : Int), .bool false, .int .i64 (res : Int)]]) (by simp only [results, Tryd.results73]; go_simp) rfl ⟨_, _, rfl, hgw, ?_, ?_⟩
  · refine Own.drew1 ?_; (repeat refine Own.setOther ?_ (by assumption) _); exact HO4.out
  · refine Below.drew ?_; (repeat refine Below.setCell ?_ (by first | assumption | exact Nat.le_refl _ | exact Nat.le_succ _) _); exact HB4.out

end Go.Proofs.YtpfcpeljfgmjgaaDoor

namespace Go.Proofs.YtpfcpeljfgmjgaaDoor
open Go.RowKit
set_option linter.unusedVariables false
set_option linter.unusedSimpArgs false

set_option maxRecDepth 100000 in
set_option maxHeartbeats 2000000 in
theorem step_8by (a b : Option Addr) (la ca cb : Nat) (pr : List Int) (up : List Nat) (k x y u v ww r res : Nat) (w : World) {lo hi lo2 hi2 : Nat}
    (hp : RowN lo hi w a la up) (hhi : hi ≤ w.heap.size) (hq : Row lo2 hi2 w b la pr) (hhi2 : hi2 ≤ w.heap.size) (hu : u < la) (hv : v < la) (hw : ww < la) (hr : r < la) (hm : la ≤ 1000000) (hbe : decide (bel pr u v) = true) (e : el up u = u) :
    Calls Tryd.prog 73 #[.slice a la ca, .slice b la cb, .agg #[.int .i64 (k : Int), .int .i64 (x : Int), .int .i64 (y : Int), .int .i64 8, .int .i64 (u : Int), .int .i64 (v : Int), .int .i64 (ww : Int), .int .i64 (r : Int), .bool false, .int .i64 (res : Int)]] w fun e w' =>
      ∃ g c, e = .returned (.tuple #[.slice (some ⟨g, 0, none⟩) la c, .agg #[.int .i64 (k : Int), .int .i64 (x : Int), .int .i64 (y : Int), .int .i64 8, .int .i64 (u : Int), .int .i64 (v : Int), .int .i64 (ww : Int), .int .i64 (r : Int), .bool true, .int .i64 1]]) ∧ w.heap.size ≤ g ∧ Own w' g (up.set u v) ∧ Below w.heap.size w w' := by
  have HL := Lib.hid hp.1
  have HP := Lib.hid hp
  have HQ := Lib.hid hq
  clear hp hq
  have HE := Lib.hid e
  have HBE := Lib.hid hbe
  clear e hbe
  go_enter Tryd.func73, Tryd.ntmps73
  go_wp2_with fail
  refine (clone_own _ _ _ up _ ((HP.out.alloc hhi _).alloc (by simp; omega) _) (by simp; omega) (by omega) hm).mono ?_
  rintro e w1 ⟨g, c7, rfl, hg, ho, hb1⟩
  have BT := ((Box.new w 81 [.int .i64 (k : Int), .int .i64 (x : Int), .int .i64 (y : Int), .int .i64 8, .int .i64 (u : Int), .int .i64 (v : Int), .int .i64 (ww : Int), .int .i64 (r : Int), .bool false, .int .i64 (res : Int)]).alloc (.cells #[.int .i64 0, .int .i64 0, .int .i64 0, .int .i64 0, .int .i64 0, .int .i64 0, .int .i64 0, .int .i64 0, .bool false, .int .i64 0] 81)).below hb1
  have BR := (Box.new (w.alloc (.cells #[.int .i64 (k : Int), .int .i64 (x : Int), .int .i64 (y : Int), .int .i64 8, .int .i64 (u : Int), .int .i64 (v : Int), .int .i64 (ww : Int), .int .i64 (r : Int), .bool false, .int .i64 (res : Int)] 81)) 81 [.int .i64 0, .int .i64 0, .int .i64 0, .int .i64 0, .int .i64 0, .int .i64 0, .int .i64 0, .int .i64 0, .bool false, .int .i64 0]).below hb1
  rw [World.size_alloc] at BR
  rw [World.size_alloc, World.size_alloc] at hg
  have hs1 := BR.lt
  have hg1 := ho.1
  have HB1 : Hid (Below w.heap.size w w1) := (below_two _ _ _).trans (hb1.mono (by simp; omega))
  have HO := Lib.hid ho
  have hgw : w.heap.size ≤ g := by omega
  have n1 : w.heap.size ≠ g := by omega
  have n2 : w.heap.size + 1 ≠ g := by omega
  have n3 : g ≠ w.heap.size := by omega
  have n4 : g ≠ w.heap.size + 1 := by omega
  have n5 : w.heap.size + 1 ≠ w.heap.size := by omega
  have n6 : w.heap.size ≠ w.heap.size + 1 := by omega
  have HT := Lib.hid BT
  have HR := Lib.hid BR
  obtain ⟨_, _, _, _, _, _, _, _, _, _⟩ := BT.ten
  obtain ⟨_, _, _, _, _, _, _, _, _, _⟩ := BT.tenf
  clear BT BR hb1 ho hg
  have H1 : Hid (∀ q0 ∈ ([.int .i64 (k : Int), .int .i64 (x : Int), .int .i64 (y : Int), .int .i64 8, .int .i64 (u : Int), .int .i64 (v : Int), .int .i64 (ww : Int), .int .i64 (r : Int), .bool true, .int .i64 1] : List Value), q0.oneCell' = true) := by intro q0 hv; simp at hv; rcases hv with rfl | rfl | rfl | rfl | rfl | rfl | rfl | rfl | rfl | rfl <;> rfl
  go_wp2_with fail
  refine (unite_by g la c7 cb b pr up k x y u v ww r res _ HO.out HL.out (HQ.out.below HB1.out hhi2) (by omega) hu hv hm HBE.out HE.out).mono ?_
  rintro e w2 ⟨rfl, ho2, hb2⟩
  have hs2 := hb2.size
  have HO2 := Lib.hid ho2
  have HT2 := Lib.hid (hb2.box HT.out n1 n1)
  have HR2 := Lib.hid (hb2.box HR.out n2 n2)
  have HB2 : Hid (Below w.heap.size w w2) := HB1.out.trans (hb2.below (by omega) hgw hgw)
  have hs3 : w.heap.size < w2.heap.size := by omega
  clear hb2 ho2
  go_wp2_with (refine wpList_store_box rfl 81 _ _ rfl w.heap.size [.int .i64 (k : Int), .int .i64 (x : Int), .int .i64 (y : Int), .int .i64 8, .int .i64 (u : Int), .int .i64 (v : Int), .int .i64 (ww : Int), .int .i64 (r : Int), .bool true, .int .i64 1] rfl rfl 81 _ HT2.out Tryd.taskSize rfl H1.out ?_; intro w4 BT4 ht4)
  have HO4 := Lib.hid (ht4.own HO2.out n3 n3)
  have BR4 := ht4.box HR2.out n5 n5
  have HB4 : Hid (Below w.heap.size w w4) := Below.trans HB2.out (ht4.below (by omega) (Nat.le_refl _) (Nat.le_refl _))
  have hs6 := BR4.lt
  obtain ⟨_, _, _, _, _, _, _, _, _, _⟩ := BT4.ten
  obtain ⟨_, _, _, _, _, _, _, _, _, _⟩ := BT4.tenf
  obtain ⟨_, _, _, _, _, _, _, _, _, _⟩ := BR4.ten
  obtain ⟨_, _, _, _, _, _, _, _, _, _⟩ := BR4.tenf
  clear BT4 BR4 ht4
  go_region
  go_wp2_with fail
  refine bodyPost_ret (v := .tuple #[.slice (some ⟨g, 0, none⟩) la c7, .agg #[.int .i64 (k : Int), .int .i64 (x : Int), .int .i64 (y : Int), .int .i64 8, .int .i64 (u : Int), .int .i64 (v : Int), .int .i64 (ww : Int), .int .i64 (r : Int), .bool true, .int .i64 1]]) (by simp only [results, Tryd.results73]; go_simp) rfl ⟨_, _, rfl, hgw, ?_, ?_⟩
  · refine Own.drew1 ?_; (repeat refine Own.setOther ?_ (by assumption) _); exact HO4.out
  · refine Below.drew ?_; (repeat refine Below.setCell ?_ (by first | assumption | exact Nat.le_refl _ | exact Nat.le_succ _) _); exact HB4.out

set_option maxRecDepth 100000 in
set_option maxHeartbeats 2000000 in
theorem step_8bn (a b : Option Addr) (la ca cb : Nat) (pr : List Int) (up : List Nat) (k x y u v ww r res : Nat) (w : World) {lo hi lo2 hi2 : Nat}
    (hp : RowN lo hi w a la up) (hhi : hi ≤ w.heap.size) (hq : Row lo2 hi2 w b la pr) (hhi2 : hi2 ≤ w.heap.size) (hu : u < la) (hv : v < la) (hw : ww < la) (hr : r < la) (hm : la ≤ 1000000) (hbe : decide (bel pr u v) = true) (e : el up u ≠ u) :
    Calls Tryd.prog 73 #[.slice a la ca, .slice b la cb, .agg #[.int .i64 (k : Int), .int .i64 (x : Int), .int .i64 (y : Int), .int .i64 8, .int .i64 (u : Int), .int .i64 (v : Int), .int .i64 (ww : Int), .int .i64 (r : Int), .bool false, .int .i64 (res : Int)]] w fun e w' =>
      ∃ g c, e = .returned (.tuple #[.slice (some ⟨g, 0, none⟩) la c, .agg #[.int .i64 (k : Int), .int .i64 (x : Int), .int .i64 (y : Int), .int .i64 1, .int .i64 (u : Int), .int .i64 (v : Int), .int .i64 (ww : Int), .int .i64 (r : Int), .bool false, .int .i64 (res : Int)]]) ∧ w.heap.size ≤ g ∧ Own w' g (up) ∧ Below w.heap.size w w' := by
  have HL := Lib.hid hp.1
  have HP := Lib.hid hp
  have HQ := Lib.hid hq
  clear hp hq
  have HE := Lib.hid e
  have HBE := Lib.hid hbe
  clear e hbe
  go_enter Tryd.func73, Tryd.ntmps73
  go_wp2_with fail
  refine (clone_own _ _ _ up _ ((HP.out.alloc hhi _).alloc (by simp; omega) _) (by simp; omega) (by omega) hm).mono ?_
  rintro e w1 ⟨g, c7, rfl, hg, ho, hb1⟩
  have BT := ((Box.new w 81 [.int .i64 (k : Int), .int .i64 (x : Int), .int .i64 (y : Int), .int .i64 8, .int .i64 (u : Int), .int .i64 (v : Int), .int .i64 (ww : Int), .int .i64 (r : Int), .bool false, .int .i64 (res : Int)]).alloc (.cells #[.int .i64 0, .int .i64 0, .int .i64 0, .int .i64 0, .int .i64 0, .int .i64 0, .int .i64 0, .int .i64 0, .bool false, .int .i64 0] 81)).below hb1
  have BR := (Box.new (w.alloc (.cells #[.int .i64 (k : Int), .int .i64 (x : Int), .int .i64 (y : Int), .int .i64 8, .int .i64 (u : Int), .int .i64 (v : Int), .int .i64 (ww : Int), .int .i64 (r : Int), .bool false, .int .i64 (res : Int)] 81)) 81 [.int .i64 0, .int .i64 0, .int .i64 0, .int .i64 0, .int .i64 0, .int .i64 0, .int .i64 0, .int .i64 0, .bool false, .int .i64 0]).below hb1
  rw [World.size_alloc] at BR
  rw [World.size_alloc, World.size_alloc] at hg
  have hs1 := BR.lt
  have hg1 := ho.1
  have HB1 : Hid (Below w.heap.size w w1) := (below_two _ _ _).trans (hb1.mono (by simp; omega))
  have HO := Lib.hid ho
  have hgw : w.heap.size ≤ g := by omega
  have n1 : w.heap.size ≠ g := by omega
  have n2 : w.heap.size + 1 ≠ g := by omega
  have n3 : g ≠ w.heap.size := by omega
  have n4 : g ≠ w.heap.size + 1 := by omega
  have n5 : w.heap.size + 1 ≠ w.heap.size := by omega
  have n6 : w.heap.size ≠ w.heap.size + 1 := by omega
  have HT := Lib.hid BT
  have HR := Lib.hid BR
  obtain ⟨_, _, _, _, _, _, _, _, _, _⟩ := BT.ten
  obtain ⟨_, _, _, _, _, _, _, _, _, _⟩ := BT.tenf
  clear BT BR hb1 ho hg
  have H1 : Hid (∀ q0 ∈ ([.int .i64 (k : Int), .int .i64 (x : Int), .int .i64 (y : Int), .int .i64 1, .int .i64 (u : Int), .int .i64 (v : Int), .int .i64 (ww : Int), .int .i64 (r : Int), .bool false, .int .i64 (res : Int)] : List Value), q0.oneCell' = true) := by intro q0 hv; simp at hv; rcases hv with rfl | rfl | rfl | rfl | rfl | rfl | rfl | rfl | rfl | rfl <;> rfl
  go_wp2_with fail
  refine (unite_bn g la c7 cb b pr up k x y u v ww r res _ HO.out HL.out (HQ.out.below HB1.out hhi2) (by omega) hu hv hm HBE.out HE.out).mono ?_
  rintro e w2 ⟨rfl, ho2, hb2⟩
  have hs2 := hb2.size
  have HO2 := Lib.hid ho2
  have HT2 := Lib.hid (hb2.box HT.out n1 n1)
  have HR2 := Lib.hid (hb2.box HR.out n2 n2)
  have HB2 : Hid (Below w.heap.size w w2) := HB1.out.trans (hb2.below (by omega) hgw hgw)
  have hs3 : w.heap.size < w2.heap.size := by omega
  clear hb2 ho2
  go_wp2_with (refine wpList_store_box rfl 81 _ _ rfl w.heap.size [.int .i64 (k : Int), .int .i64 (x : Int), .int .i64 (y : Int), .int .i64 1, .int .i64 (u : Int), .int .i64 (v : Int), .int .i64 (ww : Int), .int .i64 (r : Int), .bool false, .int .i64 (res : Int)] rfl rfl 81 _ HT2.out Tryd.taskSize rfl H1.out ?_; intro w4 BT4 ht4)
  have HO4 := Lib.hid (ht4.own HO2.out n3 n3)
  have BR4 := ht4.box HR2.out n5 n5
  have HB4 : Hid (Below w.heap.size w w4) := Below.trans HB2.out (ht4.below (by omega) (Nat.le_refl _) (Nat.le_refl _))
  have hs6 := BR4.lt
  obtain ⟨_, _, _, _, _, _, _, _, _, _⟩ := BT4.ten
  obtain ⟨_, _, _, _, _, _, _, _, _, _⟩ := BT4.tenf
  obtain ⟨_, _, _, _, _, _, _, _, _, _⟩ := BR4.ten
  obtain ⟨_, _, _, _, _, _, _, _, _, _⟩ := BR4.tenf
  clear BT4 BR4 ht4
  go_region
  go_wp2_with fail
  refine bodyPost_ret (v := .tuple #[.slice (some ⟨g, 0, none⟩) la c7, .agg #[.int .i64 (k : Int), .int .i64 (x : Int), .int .i64 (y : Int), .int .i64 1, .int .i64 (u : Int), .int .i64 (v : Int), .int .i64 (ww : Int), .int .i64 (r : Int), .bool false, .int .i64 (res : Int)]]) (by simp only [results, Tryd.results73]; go_simp) rfl ⟨_, _, rfl, hgw, ?_, ?_⟩
  · refine Own.drew1 ?_; (repeat refine Own.setOther ?_ (by assumption) _); exact HO4.out
  · refine Below.drew ?_; (repeat refine Below.setCell ?_ (by first | assumption | exact Nat.le_refl _ | exact Nat.le_succ _) _); exact HB4.out

set_option maxRecDepth 100000 in
set_option maxHeartbeats 2000000 in
theorem step_8ay (a b : Option Addr) (la ca cb : Nat) (pr : List Int) (up : List Nat) (k x y u v ww r res : Nat) (w : World) {lo hi lo2 hi2 : Nat}
    (hp : RowN lo hi w a la up) (hhi : hi ≤ w.heap.size) (hq : Row lo2 hi2 w b la pr) (hhi2 : hi2 ≤ w.heap.size) (hu : u < la) (hv : v < la) (hw : ww < la) (hr : r < la) (hm : la ≤ 1000000) (hbe : decide (bel pr u v) = false) (e : el up v = v) :
    Calls Tryd.prog 73 #[.slice a la ca, .slice b la cb, .agg #[.int .i64 (k : Int), .int .i64 (x : Int), .int .i64 (y : Int), .int .i64 8, .int .i64 (u : Int), .int .i64 (v : Int), .int .i64 (ww : Int), .int .i64 (r : Int), .bool false, .int .i64 (res : Int)]] w fun e w' =>
      ∃ g c, e = .returned (.tuple #[.slice (some ⟨g, 0, none⟩) la c, .agg #[.int .i64 (k : Int), .int .i64 (x : Int), .int .i64 (y : Int), .int .i64 8, .int .i64 (u : Int), .int .i64 (v : Int), .int .i64 (ww : Int), .int .i64 (r : Int), .bool true, .int .i64 1]]) ∧ w.heap.size ≤ g ∧ Own w' g (up.set v u) ∧ Below w.heap.size w w' := by
  have HL := Lib.hid hp.1
  have HP := Lib.hid hp
  have HQ := Lib.hid hq
  clear hp hq
  have HE := Lib.hid e
  have HBE := Lib.hid hbe
  clear e hbe
  go_enter Tryd.func73, Tryd.ntmps73
  go_wp2_with fail
  refine (clone_own _ _ _ up _ ((HP.out.alloc hhi _).alloc (by simp; omega) _) (by simp; omega) (by omega) hm).mono ?_
  rintro e w1 ⟨g, c7, rfl, hg, ho, hb1⟩
  have BT := ((Box.new w 81 [.int .i64 (k : Int), .int .i64 (x : Int), .int .i64 (y : Int), .int .i64 8, .int .i64 (u : Int), .int .i64 (v : Int), .int .i64 (ww : Int), .int .i64 (r : Int), .bool false, .int .i64 (res : Int)]).alloc (.cells #[.int .i64 0, .int .i64 0, .int .i64 0, .int .i64 0, .int .i64 0, .int .i64 0, .int .i64 0, .int .i64 0, .bool false, .int .i64 0] 81)).below hb1
  have BR := (Box.new (w.alloc (.cells #[.int .i64 (k : Int), .int .i64 (x : Int), .int .i64 (y : Int), .int .i64 8, .int .i64 (u : Int), .int .i64 (v : Int), .int .i64 (ww : Int), .int .i64 (r : Int), .bool false, .int .i64 (res : Int)] 81)) 81 [.int .i64 0, .int .i64 0, .int .i64 0, .int .i64 0, .int .i64 0, .int .i64 0, .int .i64 0, .int .i64 0, .bool false, .int .i64 0]).below hb1
  rw [World.size_alloc] at BR
  rw [World.size_alloc, World.size_alloc] at hg
  have hs1 := BR.lt
  have hg1 := ho.1
  have HB1 : Hid (Below w.heap.size w w1) := (below_two _ _ _).trans (hb1.mono (by simp; omega))
  have HO := Lib.hid ho
  have hgw : w.heap.size ≤ g := by omega
  have n1 : w.heap.size ≠ g := by omega
  have n2 : w.heap.size + 1 ≠ g := by omega
  have n3 : g ≠ w.heap.size := by omega
  have n4 : g ≠ w.heap.size + 1 := by omega
  have n5 : w.heap.size + 1 ≠ w.heap.size := by omega
  have n6 : w.heap.size ≠ w.heap.size + 1 := by omega
  have HT := Lib.hid BT
  have HR := Lib.hid BR
  obtain ⟨_, _, _, _, _, _, _, _, _, _⟩ := BT.ten
  obtain ⟨_, _, _, _, _, _, _, _, _, _⟩ := BT.tenf
  clear BT BR hb1 ho hg
  have H1 : Hid (∀ q0 ∈ ([.int .i64 (k : Int), .int .i64 (x : Int), .int .i64 (y : Int), .int .i64 8, .int .i64 (u : Int), .int .i64 (v : Int), .int .i64 (ww : Int), .int .i64 (r : Int), .bool true, .int .i64 1] : List Value), q0.oneCell' = true) := by intro q0 hv; simp at hv; rcases hv with rfl | rfl | rfl | rfl | rfl | rfl | rfl | rfl | rfl | rfl <;> rfl
  go_wp2_with fail
  refine (unite_ay g la c7 cb b pr up k x y u v ww r res _ HO.out HL.out (HQ.out.below HB1.out hhi2) (by omega) hu hv hm HBE.out HE.out).mono ?_
  rintro e w2 ⟨rfl, ho2, hb2⟩
  have hs2 := hb2.size
  have HO2 := Lib.hid ho2
  have HT2 := Lib.hid (hb2.box HT.out n1 n1)
  have HR2 := Lib.hid (hb2.box HR.out n2 n2)
  have HB2 : Hid (Below w.heap.size w w2) := HB1.out.trans (hb2.below (by omega) hgw hgw)
  have hs3 : w.heap.size < w2.heap.size := by omega
  clear hb2 ho2
  go_wp2_with (refine wpList_store_box rfl 81 _ _ rfl w.heap.size [.int .i64 (k : Int), .int .i64 (x : Int), .int .i64 (y : Int), .int .i64 8, .int .i64 (u : Int), .int .i64 (v : Int), .int .i64 (ww : Int), .int .i64 (r : Int), .bool true, .int .i64 1] rfl rfl 81 _ HT2.out Tryd.taskSize rfl H1.out ?_; intro w4 BT4 ht4)
  have HO4 := Lib.hid (ht4.own HO2.out n3 n3)
  have BR4 := ht4.box HR2.out n5 n5
  have HB4 : Hid (Below w.heap.size w w4) := Below.trans HB2.out (ht4.below (by omega) (Nat.le_refl _) (Nat.le_refl _))
  have hs6 := BR4.lt
  obtain ⟨_, _, _, _, _, _, _, _, _, _⟩ := BT4.ten
  obtain ⟨_, _, _, _, _, _, _, _, _, _⟩ := BT4.tenf
  obtain ⟨_, _, _, _, _, _, _, _, _, _⟩ := BR4.ten
  obtain ⟨_, _, _, _, _, _, _, _, _, _⟩ := BR4.tenf
  clear BT4 BR4 ht4
  go_region
  go_wp2_with fail
  refine bodyPost_ret (v := .tuple #[.slice (some ⟨g, 0, none⟩) la c7, .agg #[.int .i64 (k : Int), .int .i64 (x : Int), .int .i64 (y : Int), .int .i64 8, .int .i64 (u : Int), .int .i64 (v : Int), .int .i64 (ww : Int), .int .i64 (r : Int), .bool true, .int .i64 1]]) (by simp only [results, Tryd.results73]; go_simp) rfl ⟨_, _, rfl, hgw, ?_, ?_⟩
  · refine Own.drew1 ?_; (repeat refine Own.setOther ?_ (by assumption) _); exact HO4.out
  · refine Below.drew ?_; (repeat refine Below.setCell ?_ (by first | assumption | exact Nat.le_refl _ | exact Nat.le_succ _) _); exact HB4.out

set_option maxRecDepth 100000 in
set_option maxHeartbeats 2000000 in
theorem step_8an (a b : Option Addr) (la ca cb : Nat) (pr : List Int) (up : List Nat) (k x y u v ww r res : Nat) (w : World) {lo hi lo2 hi2 : Nat}
    (hp : RowN lo hi w a la up) (hhi : hi ≤ w.heap.size) (hq : Row lo2 hi2 w b la pr) (hhi2 : hi2 ≤ w.heap.size) (hu : u < la) (hv : v < la) (hw : ww < la) (hr : r < la) (hm : la ≤ 1000000) (hbe : decide (bel pr u v) = false) (e : el up v ≠ v) :
    Calls Tryd.prog 73 #[.slice a la ca, .slice b la cb, .agg #[.int .i64 (k : Int), .int .i64 (x : Int), .int .i64 (y : Int), .int .i64 8, .int .i64 (u : Int), .int .i64 (v : Int), .int .i64 (ww : Int), .int .i64 (r : Int), .bool false, .int .i64 (res : Int)]] w fun e w' =>
      ∃ g c, e = .returned (.tuple #[.slice (some ⟨g, 0, none⟩) la c, .agg #[.int .i64 (k : Int), .int .i64 (x : Int), .int .i64 (y : Int), .int .i64 1, .int .i64 (u : Int), .int .i64 (v : Int), .int .i64 (ww : Int), .int .i64 (r : Int), .bool false, .int .i64 (res : Int)]]) ∧ w.heap.size ≤ g ∧ Own w' g (up) ∧ Below w.heap.size w w' := by
  have HL := Lib.hid hp.1
  have HP := Lib.hid hp
  have HQ := Lib.hid hq
  clear hp hq
  have HE := Lib.hid e
  have HBE := Lib.hid hbe
  clear e hbe
  go_enter Tryd.func73, Tryd.ntmps73
  go_wp2_with fail
  refine (clone_own _ _ _ up _ ((HP.out.alloc hhi _).alloc (by simp; omega) _) (by simp; omega) (by omega) hm).mono ?_
  rintro e w1 ⟨g, c7, rfl, hg, ho, hb1⟩
  have BT := ((Box.new w 81 [.int .i64 (k : Int), .int .i64 (x : Int), .int .i64 (y : Int), .int .i64 8, .int .i64 (u : Int), .int .i64 (v : Int), .int .i64 (ww : Int), .int .i64 (r : Int), .bool false, .int .i64 (res : Int)]).alloc (.cells #[.int .i64 0, .int .i64 0, .int .i64 0, .int .i64 0, .int .i64 0, .int .i64 0, .int .i64 0, .int .i64 0, .bool false, .int .i64 0] 81)).below hb1
  have BR := (Box.new (w.alloc (.cells #[.int .i64 (k : Int), .int .i64 (x : Int), .int .i64 (y : Int), .int .i64 8, .int .i64 (u : Int), .int .i64 (v : Int), .int .i64 (ww : Int), .int .i64 (r : Int), .bool false, .int .i64 (res : Int)] 81)) 81 [.int .i64 0, .int .i64 0, .int .i64 0, .int .i64 0, .int .i64 0, .int .i64 0, .int .i64 0, .int .i64 0, .bool false, .int .i64 0]).below hb1
  rw [World.size_alloc] at BR
  rw [World.size_alloc, World.size_alloc] at hg
  have hs1 := BR.lt
  have hg1 := ho.1
  have HB1 : Hid (Below w.heap.size w w1) := (below_two _ _ _).trans (hb1.mono (by simp; omega))
  have HO := Lib.hid ho
  have hgw : w.heap.size ≤ g := by omega
  have n1 : w.heap.size ≠ g := by omega
  have n2 : w.heap.size + 1 ≠ g := by omega
  have n3 : g ≠ w.heap.size := by omega
  have n4 : g ≠ w.heap.size + 1 := by omega
  have n5 : w.heap.size + 1 ≠ w.heap.size := by omega
  have n6 : w.heap.size ≠ w.heap.size + 1 := by omega
  have HT := Lib.hid BT
  have HR := Lib.hid BR
  obtain ⟨_, _, _, _, _, _, _, _, _, _⟩ := BT.ten
  obtain ⟨_, _, _, _, _, _, _, _, _, _⟩ := BT.tenf
  clear BT BR hb1 ho hg
  have H1 : Hid (∀ q0 ∈ ([.int .i64 (k : Int), .int .i64 (x : Int), .int .i64 (y : Int), .int .i64 1, .int .i64 (u : Int), .int .i64 (v : Int), .int .i64 (ww : Int), .int .i64 (r : Int), .bool false, .int .i64 (res : Int)] : List Value), q0.oneCell' = true) := by intro q0 hv; simp at hv; rcases hv with rfl | rfl | rfl | rfl | rfl | rfl | rfl | rfl | rfl | rfl <;> rfl
  go_wp2_with fail
  refine (unite_an g la c7 cb b pr up k x y u v ww r res _ HO.out HL.out (HQ.out.below HB1.out hhi2) (by omega) hu hv hm HBE.out HE.out).mono ?_
  rintro e w2 ⟨rfl, ho2, hb2⟩
  have hs2 := hb2.size
  have HO2 := Lib.hid ho2
  have HT2 := Lib.hid (hb2.box HT.out n1 n1)
  have HR2 := Lib.hid (hb2.box HR.out n2 n2)
  have HB2 : Hid (Below w.heap.size w w2) := HB1.out.trans (hb2.below (by omega) hgw hgw)
  have hs3 : w.heap.size < w2.heap.size := by omega
  clear hb2 ho2
  go_wp2_with (refine wpList_store_box rfl 81 _ _ rfl w.heap.size [.int .i64 (k : Int), .int .i64 (x : Int), .int .i64 (y : Int), .int .i64 1, .int .i64 (u : Int), .int .i64 (v : Int), .int .i64 (ww : Int), .int .i64 (r : Int), .bool false, .int .i64 (res : Int)] rfl rfl 81 _ HT2.out Tryd.taskSize rfl H1.out ?_; intro w4 BT4 ht4)
  have HO4 := Lib.hid (ht4.own HO2.out n3 n3)
  have BR4 := ht4.box HR2.out n5 n5
  have HB4 : Hid (Below w.heap.size w w4) := Below.trans HB2.out (ht4.below (by omega) (Nat.le_refl _) (Nat.le_refl _))
  have hs6 := BR4.lt
  obtain ⟨_, _, _, _, _, _, _, _, _, _⟩ := BT4.ten
  obtain ⟨_, _, _, _, _, _, _, _, _, _⟩ := BT4.tenf
  obtain ⟨_, _, _, _, _, _, _, _, _, _⟩ := BR4.ten
  obtain ⟨_, _, _, _, _, _, _, _, _, _⟩ := BR4.tenf
  clear BT4 BR4 ht4
  go_region
  go_wp2_with fail
  refine bodyPost_ret (v := .tuple #[.slice (some ⟨g, 0, none⟩) la c7, .agg #[.int .i64 (k : Int), .int .i64 (x : Int), .int .i64 (y : Int), .int .i64 1, .int .i64 (u : Int), .int .i64 (v : Int), .int .i64 (ww : Int), .int .i64 (r : Int), .bool false, .int .i64 (res : Int)]]) (by simp only [results, Tryd.results73]; go_simp) rfl ⟨_, _, rfl, hgw, ?_, ?_⟩
  · refine Own.drew1 ?_; (repeat refine Own.setOther ?_ (by assumption) _); exact HO4.out
  · refine Below.drew ?_; (repeat refine Below.setCell ?_ (by first | assumption | exact Nat.le_refl _ | exact Nat.le_succ _) _); exact HB4.out

end Go.Proofs.YtpfcpeljfgmjgaaDoor

namespace Go.Proofs.YtpfcpeljfgmjgaaDoor
set_option linter.unusedVariables false
set_option linter.unusedSimpArgs false

/-- How many steps are left at most, alone, of a task. -/
def mes (pr : List Int) (n : Nat) (t : Tk) : Nat :=
  if t.dn then 0
  else if t.st = 1 then 3 * hgt pr n t.u + 1 + (if t.k = 1 then 0 else 3 * n)
  else if t.st = 2 then 3 * hgt pr n t.u + (if t.k = 1 then 0 else 3 * n)
  else if t.st = 3 then 3 * hgt pr n t.u - 1 + (if t.k = 1 then 0 else 3 * n)
  else if t.st = 4 then 3 * hgt pr n t.v + 2
  else if t.st = 5 then 3 * hgt pr n t.v + 1
  else if t.st = 6 then 3 * hgt pr n t.v
  else 1

/-- An operation alone: what holds ahead of each of its steps. -/
structure Alone (n : Nat) (pr : List Int) (was up : List Nat) (k x y : Nat) (t : Tk) : Prop where
  W : For n pr was
  F : For n pr up
  I : Inv n pr up t
  tk : t.k = k
  tx : t.x = x
  ty : t.y = y
  on : t.dn = false → (∀ j, j < n → rtu up j = rtu was j) ∧ (t.st ≤ 3 → rtu was t.u = rtu was x ∧ t.v = y) ∧ (4 ≤ t.st → t.u = rtu was x ∧ rtu was t.v = rtu was y) ∧ (7 ≤ t.st → t.v = rtu was y ∧ t.u ≠ t.v)
  fin : t.dn = true → (k = 1 → (∀ j, j < n → rtu up j = rtu was j) ∧ t.res = rtu was x) ∧
    (k = 2 → (∀ j, j < n → rtu up j = rtu was j) ∧ t.res = if rtu was x = rtu was y then 1 else 0) ∧
    (k = 3 → (rtu was x = rtu was y → (∀ j, j < n → rtu up j = rtu was j) ∧ t.res = 0) ∧
      (rtu was x ≠ rtu was y → t.res = 1 ∧ ∃ c, (c = rtu was x ∨ c = rtu was y) ∧ ∀ j, j < n → rtu up j = if rtu was j = rtu was x ∨ rtu was j = rtu was y then c else rtu was j))

theorem alone_new {n : Nat} {pr : List Int} {was : List Nat} {k x y : Nat} (W : For n pr was) (h1 : 1 ≤ k) (h3 : k ≤ 3) (hx : x < n) (hy : y < n) : Alone n pr was was k x y ⟨k, x, y, 1, x, y, 0, 0, false, 0⟩ :=
  ⟨W, W, inv_new h1 h3 hx hy, rfl, rfl, rfl, fun _ => ⟨fun _ _ => rfl, fun _ => ⟨rfl, rfl⟩, fun h => absurd h (by show ¬ 4 ≤ 1; omega), fun h => absurd h (by show ¬ 7 ≤ 1; omega)⟩, fun h => by cases h⟩
theorem mes_new {n : Nat} {pr : List Int} {k x y : Nat} (hx : x < n) : mes pr n ⟨k, x, y, 1, x, y, 0, 0, false, 0⟩ ≤ 3 * n + (if k = 1 then 0 else 3 * n) := by
  have := hgt_lt_n (pr := pr) hx
  simp only [mes]
  simp
  omega

/-- A root stays one where no root changes. -/
theorem root_stays {n : Nat} {pr : List Int} {was up : List Nat} (W : For n pr was) (F : For n pr up) (h : ∀ j, j < n → rtu up j = rtu was j) {x : Nat} (hx : x < n) : el up (rtu was x) = rtu was x := by
  have h1 := W.rt_spec hx
  have h2 := h _ h1.2
  have h3 := F.rt_spec h1.2
  rw [h2, W.rt_idem hx] at h3
  exact h3.1

theorem alone_step {n : Nat} {pr : List Int} {was up : List Nat} {k x y : Nat} {t : Tk} (A : Alone n pr was up k x y t) (hx : x < n) (hy : y < n) (hd : t.dn = false) :
    Alone n pr was (ups up pr t) k x y (tks up pr t) ∧ mes pr n (tks up pr t) < mes pr n t := by
  obtain ⟨F', I', D⟩ := step_ok A.F A.I
  obtain ⟨W, F, I, htk, htx, hty, hon, _⟩ := A
  obtain ⟨same, h13, h46, h78⟩ := hon hd
  obtain ⟨k', x', y', st, u, v, w, r, dn, res⟩ := t
  dsimp only at hd htk htx hty h13 h46 h78
  subst hd htk htx hty
  have keep : (¬ (st = 8 ∧ (tks up pr ⟨k', x', y', st, u, v, w, r, false, res⟩).dn = true)) → ∀ j, j < n → rtu (ups up pr ⟨k', x', y', st, u, v, w, r, false, res⟩) j = rtu was j := fun hne j hj => by
    rcases D with ⟨_, h⟩ | ⟨h, _⟩
    · rw [(h j hj).2, same j hj]
    · exact absurd ⟨h.1, h.2.2⟩ hne
  have hst : st = 1 ∨ st = 2 ∨ st = 3 ∨ st = 4 ∨ st = 5 ∨ st = 6 ∨ st = 7 ∨ st = 8 := by have := I.s1; have := I.s8; dsimp only at *; omega
  have hk : k' = 1 ∨ k' = 2 ∨ k' = 3 := by have := I.k1; have := I.k3; dsimp only at *; omega
  have un := I.un
  have vn := I.vn
  have wn := I.wn
  have rn := I.rn
  dsimp only at un vn wn rn
  have rsx := root_stays W F same hx
  have rsy := root_stays W F same hy
  rcases hst with rfl | rfl | rfl | rfl | rfl | rfl | rfl | rfl
  · obtain ⟨e1, rfl⟩ := h13 (by omega)
    have kp := keep (by simp)
    by_cases e : el up u = u
    · have e2 : u = rtu was x' := by rw [← e1, ← same u un, F.rt_self un e]
      have hv := hgt_lt_n (pr := pr) vn
      refine ⟨⟨W, F', I', ?_, ?_, ?_, ?_, ?_⟩, ?_⟩
      all_goals rcases hk with rfl | rfl | rfl <;> simp [tks, e, Tk.fst, Tk.fin, mes]
      all_goals first | exact ⟨kp, e2⟩ | exact ⟨kp, e2, trivial⟩ | omega | (refine ⟨kp, ?_⟩; first | exact e2 | exact ⟨e2, rfl⟩)
    · have hb := (F.ok u un).resolve_left e
      have hh := hgt_lt (n := n) hb (F.lt u un)
      refine ⟨⟨W, F', I', ?_, ?_, ?_, ?_, ?_⟩, ?_⟩
      all_goals simp [tks, e, mes]
      · exact ⟨kp, e1⟩
  · obtain ⟨e1, rfl⟩ := h13 (by omega)
    have kp := keep (by simp)
    obtain ⟨a1, a2⟩ := I.a rfl (.inl rfl)
    dsimp only at a1 a2
    have hh := hgt_lt (n := n) a1 wn
    have ew : rtu was w = rtu was x' := by rw [← same w wn, a2, same u un, e1]
    have hv := hgt_lt_n (pr := pr) vn
    by_cases e : el up w = w
    · have e2 : w = rtu was x' := by rw [← ew, ← same w wn, F.rt_self wn e]
      refine ⟨⟨W, F', I', ?_, ?_, ?_, ?_, ?_⟩, ?_⟩
      all_goals rcases hk with rfl | rfl | rfl <;> simp [tks, e, Tk.fst, Tk.fin, mes]
      all_goals first | exact ⟨kp, e2⟩ | exact ⟨kp, e2, trivial⟩ | omega | (refine ⟨kp, ?_⟩; first | exact e2 | exact ⟨e2, rfl⟩)
    · refine ⟨⟨W, F', I', ?_, ?_, ?_, ?_, ?_⟩, ?_⟩
      all_goals simp [tks, e, mes]
      · exact ⟨kp, e1⟩
      · omega
  · obtain ⟨e1, rfl⟩ := h13 (by omega)
    have kp := keep (by simp)
    obtain ⟨a1, a2⟩ := I.a rfl (.inr rfl)
    dsimp only at a1 a2
    have hh := hgt_lt (n := n) a1 wn
    have ew : rtu was w = rtu was x' := by rw [← same w wn, a2, same u un, e1]
    refine ⟨⟨W, F', I', ?_, ?_, ?_, ?_, ?_⟩, ?_⟩
    all_goals simp [tks, mes]
    · exact ⟨kp, ew⟩
    · omega
  · obtain ⟨e1, e2⟩ := h46 (by omega)
    have kp := keep (by simp)
    have hk1 := I.kk (Nat.le_refl _)
    dsimp only at hk1
    by_cases e : el up v = v
    · have e3 : v = rtu was y' := by rw [← e2, ← same v vn, F.rt_self vn e]
      by_cases e4 : u = v
      · have e5 : rtu was x' = rtu was y' := by rw [← e1, ← e3, e4]
        refine ⟨⟨W, F', I', ?_, ?_, ?_, ?_, ?_⟩, ?_⟩
        all_goals rcases hk with rfl | rfl | rfl <;> simp [tks, e, e4, Tk.snd, Tk.fin, mes, e5]
        all_goals first | exact kp | omega
      · refine ⟨⟨W, F', I', ?_, ?_, ?_, ?_, ?_⟩, ?_⟩
        all_goals rcases hk with rfl | rfl | rfl <;> simp [tks, e, e4, Tk.snd, Tk.fin, mes]
        all_goals first | exact ⟨kp, ⟨e1, e2⟩, e3⟩ | omega
    · refine ⟨⟨W, F', I', ?_, ?_, ?_, ?_, ?_⟩, ?_⟩
      all_goals simp [tks, e, mes]
      · exact ⟨kp, e1, e2⟩
  · obtain ⟨e1, e2⟩ := h46 (by omega)
    have kp := keep (by simp)
    have hk1 := I.kk (by show 4 ≤ 5; omega)
    dsimp only at hk1
    obtain ⟨a1, a2⟩ := I.c rfl (.inl rfl)
    dsimp only at a1 a2
    have hh := hgt_lt (n := n) a1 wn
    have ew : rtu was w = rtu was y' := by rw [← same w wn, a2, same v vn, e2]
    by_cases e : el up w = w
    · have e3 : w = rtu was y' := by rw [← ew, ← same w wn, F.rt_self wn e]
      by_cases e4 : u = w
      · have e5 : rtu was x' = rtu was y' := by rw [← e1, ← e3, e4]
        refine ⟨⟨W, F', I', ?_, ?_, ?_, ?_, ?_⟩, ?_⟩
        all_goals rcases hk with rfl | rfl | rfl <;> simp [tks, e, e4, Tk.snd, Tk.fin, mes, e5]
        all_goals first | exact kp | omega
      · refine ⟨⟨W, F', I', ?_, ?_, ?_, ?_, ?_⟩, ?_⟩
        all_goals rcases hk with rfl | rfl | rfl <;> simp [tks, e, e4, Tk.snd, Tk.fin, mes]
        all_goals first | exact ⟨kp, ⟨e1, ew⟩, e3⟩ | omega
    · refine ⟨⟨W, F', I', ?_, ?_, ?_, ?_, ?_⟩, ?_⟩
      all_goals simp [tks, e, mes]
      · exact ⟨kp, e1, e2⟩
  · obtain ⟨e1, e2⟩ := h46 (by omega)
    have kp := keep (by simp)
    obtain ⟨a1, a2⟩ := I.c rfl (.inr rfl)
    dsimp only at a1 a2
    have hh := hgt_lt (n := n) a1 wn
    have ew : rtu was w = rtu was y' := by rw [← same w wn, a2, same v vn, e2]
    refine ⟨⟨W, F', I', ?_, ?_, ?_, ?_, ?_⟩, ?_⟩
    all_goals simp [tks, mes]
    · exact ⟨kp, e1, ew⟩
    · omega
  · obtain ⟨e1, e2⟩ := h46 (by omega)
    obtain ⟨e3, e4⟩ := h78 (by omega)
    have kp := keep (by simp)
    have hk2 := I.k7 rfl
    dsimp only at hk2
    subst hk2
    have e : el up u = u := by rw [e1]; exact rsx
    have e5 : ¬ rtu was x' = rtu was y' := by rw [← e1, ← e3]; exact e4
    refine ⟨⟨W, F', I', ?_, ?_, ?_, ?_, ?_⟩, ?_⟩
    all_goals simp [tks, e, Tk.fin, mes, e5]
    exact kp
  · obtain ⟨e1, e2⟩ := h46 (by omega)
    obtain ⟨e3, e4⟩ := h78 (by omega)
    have hk2 := I.k8 rfl
    dsimp only at hk2
    subst hk2
    have eu : el up u = u := by rw [e1]; exact rsx
    have ev : el up v = v := by rw [e3]; exact rsy
    have e5 : ¬ rtu was x' = rtu was y' := by rw [← e1, ← e3]; exact e4
    have ru : rtu up u = u := F.rt_self un eu
    have rv : rtu up v = v := F.rt_self vn ev
    by_cases hb : bel pr u v
    · have J := (F.join un vn hb eu).rt
      refine ⟨⟨W, F', I', ?_, ?_, ?_, ?_, ?_⟩, ?_⟩
      all_goals simp [tks, eu, ev, hb, Tk.fin, mes, e5, ups]
      refine .inr fun j hj => ?_
      rw [J j hj, same j hj, rv, e1, e3]
      by_cases p : rtu was j = rtu was x'
      · simp [p]
      · by_cases q : rtu was j = rtu was y'
        · simp [q]
        · simp [p, q]
    · have J := (F.join vn un (bel_total e4 hb) ev).rt
      refine ⟨⟨W, F', I', ?_, ?_, ?_, ?_, ?_⟩, ?_⟩
      all_goals simp [tks, eu, ev, hb, Tk.fin, mes, e5, ups]
      refine .inl fun j hj => ?_
      rw [J j hj, same j hj, ru, e1, e3]
      by_cases p : rtu was j = rtu was x'
      · simp [p]
      · by_cases q : rtu was j = rtu was y'
        · simp [q]
        · simp [p, q]

end Go.Proofs.YtpfcpeljfgmjgaaDoor
