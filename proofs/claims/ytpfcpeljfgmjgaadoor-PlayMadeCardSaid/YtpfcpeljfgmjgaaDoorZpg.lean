/- Contract of again. Contracts of unite, one way through it each. -/
import Derived.Test.YtpfcpeljfgmjgaaDoorZpe
import Derived.Test.YtpfcpeljfgmjgaaDoorZpa
namespace Go.Proofs.YtpfcpeljfgmjgaaDoor
open Go.RowKit
set_option linter.unusedVariables false
set_option linter.unusedSimpArgs false

set_option maxRecDepth 100000 in
set_option maxHeartbeats 2000000 in
theorem again_y (g la ca : Nat) (up : List Nat) (k x y u v ww r res : Nat) (w : World) (ho : Own w g up) (hl : up.length = la) (hu : u < la) (hm : la ≤ 1000000) (e : el up u = u) :
    Calls Tryd.prog 106 #[.slice (some ⟨g, 0, none⟩) la ca, .agg #[.int .i64 (k : Int), .int .i64 (x : Int), .int .i64 (y : Int), .int .i64 7, .int .i64 (u : Int), .int .i64 (v : Int), .int .i64 (ww : Int), .int .i64 (r : Int), .bool false, .int .i64 (res : Int)]] w fun e w' => e = .returned (.agg #[.int .i64 (k : Int), .int .i64 (x : Int), .int .i64 (y : Int), .int .i64 7, .int .i64 (u : Int), .int .i64 (v : Int), .int .i64 (u : Int), .int .i64 (r : Int), .bool true, .int .i64 0]) ∧ Below w.heap.size w w' := by
  have HL := Lib.hid hl
  have HO := Lib.hid ho
  have hg := ho.1
  clear hl ho
  have HE := Lib.hid e
  have hs : ((u : Int) == (u : Int)) = true := by simp
  clear e
  go_enter Tryd.func106, Tryd.ntmps106
  go_wp2_with (go_at_call 120; (with_reducible refine (look_in _ _ _ up u _ (((HO.out.alloc _).alloc _).row (lo := 0) (hi := w.heap.size) HL.out (Nat.zero_le _) hg) hu hm).mono ?_); rw [HE.out]; rintro e w' ⟨rfl, rfl⟩)
  refine (done_lit _ _ _ _ _ _ _ _ _ _ _ _).mono ?_
  rintro e w1 ⟨rfl, hb⟩
  have hs1 := hb.size
  simp only [World.size_alloc] at hs1
  have bx := (Box.new (w.alloc (.cells #[.int .i64 (k : Int), .int .i64 (x : Int), .int .i64 (y : Int), .int .i64 7, .int .i64 (u : Int), .int .i64 (v : Int), .int .i64 (u : Int), .int .i64 (r : Int), .bool false, .int .i64 (res : Int)] 81)) 81 [.int .i64 0, .int .i64 0, .int .i64 0, .int .i64 0, .int .i64 0, .int .i64 0, .int .i64 0, .int .i64 0, .bool false, .int .i64 0]).below hb
  rw [World.size_alloc] at bx
  obtain ⟨_, _, _, _, _, _, _, _, _, _⟩ := bx.ten
  obtain ⟨_, _, _, _, _, _, _, _, _, _⟩ := bx.tenf
  have hlt : w.heap.size + 1 < w1.heap.size := by omega
  have HB : Hid (Below w.heap.size w w1) := (below_two _ _ _).trans (hb.mono (by simp; omega))
  clear hb bx hs1
  go_wp2_with fail
  refine bodyPost_ret (v := .agg #[.int .i64 (k : Int), .int .i64 (x : Int), .int .i64 (y : Int), .int .i64 7, .int .i64 (u : Int), .int .i64 (v : Int), .int .i64 (u : Int), .int .i64 (r : Int), .bool true, .int .i64 0]) (by simp only [results, Tryd.results106]; go_simp) rfl ⟨rfl, ?_⟩
  (repeat refine Below.setCell ?_ (by first | exact Nat.le_refl _ | exact Nat.le_succ _) _); exact HB.out

set_option maxRecDepth 100000 in
set_option maxHeartbeats 2000000 in
theorem again_n (g la ca : Nat) (up : List Nat) (k x y u v ww r res : Nat) (w : World) (ho : Own w g up) (hl : up.length = la) (hu : u < la) (hm : la ≤ 1000000) (e : el up u ≠ u) :
    Calls Tryd.prog 106 #[.slice (some ⟨g, 0, none⟩) la ca, .agg #[.int .i64 (k : Int), .int .i64 (x : Int), .int .i64 (y : Int), .int .i64 7, .int .i64 (u : Int), .int .i64 (v : Int), .int .i64 (ww : Int), .int .i64 (r : Int), .bool false, .int .i64 (res : Int)]] w fun e w' => e = .returned (.agg #[.int .i64 (k : Int), .int .i64 (x : Int), .int .i64 (y : Int), .int .i64 1, .int .i64 (u : Int), .int .i64 (v : Int), .int .i64 (el up u : Int), .int .i64 (r : Int), .bool false, .int .i64 (res : Int)]) ∧ Below w.heap.size w w' := by
  have HL := Lib.hid hl
  have HO := Lib.hid ho
  have hg := ho.1
  clear hl ho
  obtain ⟨q, hq⟩ : ∃ q, el up u = q := ⟨_, rfl⟩
  rw [hq] at e ⊢
  have HE := Lib.hid hq
  have hs : ((q : Int) == (u : Int)) = false := by simp; omega
  clear e hq
  go_enter Tryd.func106, Tryd.ntmps106
  go_wp2_with (go_at_call 120; (with_reducible refine (look_in _ _ _ up u _ (((HO.out.alloc _).alloc _).row (lo := 0) (hi := w.heap.size) HL.out (Nat.zero_le _) hg) hu hm).mono ?_); rw [HE.out]; rintro e w' ⟨rfl, rfl⟩)
  refine bodyPost_ret (v := .agg #[.int .i64 (k : Int), .int .i64 (x : Int), .int .i64 (y : Int), .int .i64 1, .int .i64 (u : Int), .int .i64 (v : Int), .int .i64 (q : Int), .int .i64 (r : Int), .bool false, .int .i64 (res : Int)]) (by simp only [results, Tryd.results106]; go_simp) rfl ⟨rfl, ?_⟩
  exact below_two _ _ _

end Go.Proofs.YtpfcpeljfgmjgaaDoor

namespace Go.Proofs.YtpfcpeljfgmjgaaDoor
open Go.RowKit
open Go.ChangeMaps (setBlock)
set_option linter.unusedVariables false
set_option linter.unusedSimpArgs false

theorem two_news (w : World) (cs1 cs2 cs3 : List Value) (t1 t2 t3 : TypeId) : Box (((w.alloc (.cells cs1.toArray t1)).alloc (.cells cs2.toArray t2)).alloc (.cells cs3.toArray t3)) w.heap.size t1 cs1 ∧ Box (((w.alloc (.cells cs1.toArray t1)).alloc (.cells cs2.toArray t2)).alloc (.cells cs3.toArray t3)) (w.heap.size + 1) t2 cs2 ∧ Box (((w.alloc (.cells cs1.toArray t1)).alloc (.cells cs2.toArray t2)).alloc (.cells cs3.toArray t3)) (w.heap.size + 2) t3 cs3 := by
  refine ⟨((Box.new _ _ _).alloc _).alloc _, ?_, ?_⟩
  · have := (Box.new (w.alloc (.cells cs1.toArray t1)) t2 cs2).alloc (.cells cs3.toArray t3)
    rwa [World.size_alloc] at this
  · have := Box.new ((w.alloc (.cells cs1.toArray t1)).alloc (.cells cs2.toArray t2)) t3 cs3
    rwa [World.size_alloc, World.size_alloc] at this
theorem run_fill_new (w : World) {key : Value} {kl : Lit} (hkey : keyOf Tryd.prog 193 key = some kl) :
    (Instr.mapUpdate 195 (.map (some w.heap.size)) key (.int .i64 0)).run Tryd.prog (w.alloc (.map #[] 0)) = .ok () (w.alloc (oneMap key 0)) := by
  rw [run_fill (r := w.heap.size) (heap_alloc_new _ _) hkey, setBlock_last]

set_option maxRecDepth 100000 in
set_option maxHeartbeats 2000000 in
theorem unite_by (g la ca cb : Nat) (b : Option Addr) (pr : List Int) (up : List Nat) (k x y u v ww r res : Nat) (w : World) {lo hi : Nat} (ho : Own w g up) (hl : up.length = la) (hq : Row lo hi w b la pr) (hhi : hi ≤ w.heap.size) (hu : u < la) (hv : v < la) (hm : la ≤ 1000000) (hbe : decide (bel pr u v) = true) (e : el up u = u) :
    Calls Tryd.prog 107 #[.slice (some ⟨g, 0, none⟩) la ca, .slice b la cb, .agg #[.int .i64 (k : Int), .int .i64 (x : Int), .int .i64 (y : Int), .int .i64 8, .int .i64 (u : Int), .int .i64 (v : Int), .int .i64 (ww : Int), .int .i64 (r : Int), .bool false, .int .i64 (res : Int)]] w fun e w' => e = .returned (.agg #[.int .i64 (k : Int), .int .i64 (x : Int), .int .i64 (y : Int), .int .i64 8, .int .i64 (u : Int), .int .i64 (v : Int), .int .i64 (ww : Int), .int .i64 (r : Int), .bool true, .int .i64 1]) ∧ Own w' g (up.set u v) ∧ Two g g w w' := by
  have hmm := @run_makeMap Tryd.prog
  have HL := Lib.hid hl
  have HO := Lib.hid ho
  have HQ := Lib.hid hq
  have HE := Lib.hid e
  have HBE := Lib.hid hbe
  have hg := ho.1
  clear hl ho hq e hbe
  obtain ⟨kl, hkey⟩ := ch_key (a := (u : Int)) (b := (u : Int)) (c := (v : Int)) (by unfold fits; omega) (by unfold fits; omega) (by unfold fits; omega)
  have HK := Lib.hid hkey
  clear hkey
  go_enter Tryd.func107, Tryd.ntmps107
  go_wp2_with fail
  refine (below_v _ _ _ pr u v _ (((HQ.out.alloc hhi _).alloc (by simp; omega) _).alloc (by simp; omega) _) hu hv hm true HBE.out).mono ?_
  rintro e w1 ⟨rfl, m, hw1⟩
  obtain ⟨BT, BR, BC⟩ := two_news w [.int .i64 (k : Int), .int .i64 (x : Int), .int .i64 (y : Int), .int .i64 8, .int .i64 (u : Int), .int .i64 (v : Int), .int .i64 (ww : Int), .int .i64 (r : Int), .bool false, .int .i64 (res : Int)] [.int .i64 0, .int .i64 0, .int .i64 0, .int .i64 0, .int .i64 0, .int .i64 0, .int .i64 0, .int .i64 0, .bool false, .int .i64 0] [.int .i64 (v : Int), .int .i64 (v : Int), .int .i64 (u : Int)] 81 81 193
  have HB : Hid (Box w1 w.heap.size 81 [.int .i64 (k : Int), .int .i64 (x : Int), .int .i64 (y : Int), .int .i64 8, .int .i64 (u : Int), .int .i64 (v : Int), .int .i64 (ww : Int), .int .i64 (r : Int), .bool false, .int .i64 (res : Int)] ∧ Box w1 (w.heap.size + 1) 81 [.int .i64 0, .int .i64 0, .int .i64 0, .int .i64 0, .int .i64 0, .int .i64 0, .int .i64 0, .int .i64 0, .bool false, .int .i64 0] ∧ Box w1 (w.heap.size + 2) 193 [.int .i64 (v : Int), .int .i64 (v : Int), .int .i64 (u : Int)]) := by subst hw1; exact ⟨BT, BR, BC⟩
  have hs1 : w1.heap.size = w.heap.size + 3 := by subst hw1; simp [size_drewN']
  have HO1 : Hid (Own w1 g up) := by subst hw1; exact (((HO.out.alloc _).alloc _).alloc _).drewN _
  have HT1 : Hid (Two g g w w1) := by subst hw1; exact ((((Two.refl g g w).alloc _).alloc _).alloc _).drewN _
  clear hw1 BT BR BC
  obtain ⟨_, _, _, _, _, _, _, _, _, _⟩ := HB.out.1.ten
  obtain ⟨_, _, _, _, _, _, _, _, _, _⟩ := HB.out.1.tenf
  obtain ⟨_, _, _, _, _, _⟩ := HB.out.2.2.three
  have hg1 := HO1.out.1
  have n1 : w.heap.size ≠ g := by omega
  have n2 : w.heap.size + 1 ≠ g := by omega
  have n3 : w.heap.size + 2 ≠ g := by omega
  have n4 : g ≠ w.heap.size := by omega
  have n5 : g ≠ w.heap.size + 1 := by omega
  have n6 : g ≠ w.heap.size + 2 := by omega
  have q1 : w.heap.size < w1.heap.size := by omega
  have q2 : w.heap.size + 1 < w1.heap.size := by omega
  have q3 : w.heap.size + 2 < w1.heap.size := by omega
  have HS1 := Lib.hid hs1
  clear hs1
  have E1 := run_fill_new (((w1.setCell ⟨w.heap.size + 2, 0, none⟩ (.int .i64 (u : Int))).setCell ⟨w.heap.size + 2, 1, none⟩ (.int .i64 (u : Int))).setCell ⟨w.heap.size + 2, 2, none⟩ (.int .i64 (v : Int))) HK.out
  try simp only [World.size_setCell] at E1
  go_wp2_with fail
  have HO2 : Hid (Own (((w1.setCell ⟨w.heap.size + 2, 0, none⟩ (.int .i64 (u : Int))).setCell ⟨w.heap.size + 2, 1, none⟩ (.int .i64 (u : Int))).setCell ⟨w.heap.size + 2, 2, none⟩ (.int .i64 (v : Int))) g up) := by (repeat refine Own.setOther ?_ (by assumption) _); exact HO1.out
  have HT2 : Hid (Two g w1.heap.size w (((w1.setCell ⟨w.heap.size + 2, 0, none⟩ (.int .i64 (u : Int))).setCell ⟨w.heap.size + 2, 1, none⟩ (.int .i64 (u : Int))).setCell ⟨w.heap.size + 2, 2, none⟩ (.int .i64 (v : Int)))) := ⟨HT1.out.os, HT1.out.tape, HT1.out.output, by first | exact HT1.out.size | (simp; exact HT1.out.size), fun k hk h1 h2 => (Below.heap_setCell _ _ _ _ (by show k ≠ w.heap.size + 2; omega)).trans ((Below.heap_setCell _ _ _ _ (by show k ≠ w.heap.size + 2; omega)).trans ((Below.heap_setCell _ _ _ _ (by show k ≠ w.heap.size + 2; omega)).trans (HT1.out.block k hk h1 h1)))⟩
  have HB2 : Hid (Box (((w1.setCell ⟨w.heap.size + 2, 0, none⟩ (.int .i64 (u : Int))).setCell ⟨w.heap.size + 2, 1, none⟩ (.int .i64 (u : Int))).setCell ⟨w.heap.size + 2, 2, none⟩ (.int .i64 (v : Int))) w.heap.size 81 [.int .i64 (k : Int), .int .i64 (x : Int), .int .i64 (y : Int), .int .i64 8, .int .i64 (u : Int), .int .i64 (v : Int), .int .i64 (ww : Int), .int .i64 (r : Int), .bool false, .int .i64 (res : Int)] ∧ Box (((w1.setCell ⟨w.heap.size + 2, 0, none⟩ (.int .i64 (u : Int))).setCell ⟨w.heap.size + 2, 1, none⟩ (.int .i64 (u : Int))).setCell ⟨w.heap.size + 2, 2, none⟩ (.int .i64 (v : Int))) (w.heap.size + 1) 81 [.int .i64 0, .int .i64 0, .int .i64 0, .int .i64 0, .int .i64 0, .int .i64 0, .int .i64 0, .int .i64 0, .bool false, .int .i64 0] ∧ Box (((w1.setCell ⟨w.heap.size + 2, 0, none⟩ (.int .i64 (u : Int))).setCell ⟨w.heap.size + 2, 1, none⟩ (.int .i64 (u : Int))).setCell ⟨w.heap.size + 2, 2, none⟩ (.int .i64 (v : Int))) (w.heap.size + 2) 193 [.int .i64 (u : Int), .int .i64 (u : Int), .int .i64 (v : Int)]) := ⟨((HB.out.1.setOther (a := ⟨w.heap.size + 2, 0, none⟩) (by show w.heap.size ≠ w.heap.size + 2; omega) _).setOther (a := ⟨w.heap.size + 2, 1, none⟩) (by show w.heap.size ≠ w.heap.size + 2; omega) _).setOther (a := ⟨w.heap.size + 2, 2, none⟩) (by show w.heap.size ≠ w.heap.size + 2; omega) _, ((HB.out.2.1.setOther (a := ⟨w.heap.size + 2, 0, none⟩) (by show w.heap.size + 1 ≠ w.heap.size + 2; omega) _).setOther (a := ⟨w.heap.size + 2, 1, none⟩) (by show w.heap.size + 1 ≠ w.heap.size + 2; omega) _).setOther (a := ⟨w.heap.size + 2, 2, none⟩) (by show w.heap.size + 1 ≠ w.heap.size + 2; omega) _, ((HB.out.2.2.set 0 _).set 1 _).set 2 _⟩
  refine (into_yes w1.heap.size g la ca up u u v _ ?i1 (HO2.out.alloc _) HL.out hu hu hv HE.out hm (by omega)).mono ?_
  case i1 => have := heap_alloc_new (((w1.setCell ⟨w.heap.size + 2, 0, none⟩ (.int .i64 (u : Int))).setCell ⟨w.heap.size + 2, 1, none⟩ (.int .i64 (u : Int))).setCell ⟨w.heap.size + 2, 2, none⟩ (.int .i64 (v : Int))) (oneMap (.agg #[.int .i64 (u : Int), .int .i64 (u : Int), .int .i64 (v : Int)]) 0); simpa using this
  rintro e w2 ⟨rfl, ho3, hm3, ht3⟩
  have BT3 := ht3.box (HB2.out.1.alloc _) n1 (by omega)
  have BR3 := ht3.box (HB2.out.2.1.alloc _) n2 (by omega)
  have BC3 := ht3.box (HB2.out.2.2.alloc _) n3 (by omega)
  have HT3 : Hid (Two g g w w2) := ((HT2.out.alloc _).trans ht3).one (by omega)
  have HO3 := Lib.hid ho3
  have hs3 := ht3.size
  simp only [World.size_alloc, World.size_setCell] at hs3
  have E2 := run_look hm3 HK.out
  have r1 : w.heap.size < w2.heap.size := by omega
  have r2 : w.heap.size + 1 < w2.heap.size := by omega
  have r3 : w.heap.size + 2 < w2.heap.size := by omega
  have hg2 := ho3.1
  clear ht3 hm3 ho3 E1 q1 q2 q3
  obtain ⟨_, _, _, _, _, _, _, _, _, _⟩ := BT3.ten
  obtain ⟨_, _, _, _, _, _, _, _, _, _⟩ := BT3.tenf
  obtain ⟨_, _, _, _, _, _⟩ := BC3.three
  have HR3 := Lib.hid BR3
  clear BT3 BR3 BC3
  go_wp2_with fail
  refine (done_lit _ _ _ _ _ _ _ _ _ _ _ _).mono ?_
  rintro e w3 ⟨rfl, hb4⟩
  have hs4 := hb4.size
  have BR4 := HR3.out.below hb4
  obtain ⟨_, _, _, _, _, _, _, _, _, _⟩ := BR4.ten
  obtain ⟨_, _, _, _, _, _, _, _, _, _⟩ := BR4.tenf
  have t2 : w.heap.size + 1 < w3.heap.size := by omega
  have HO4 := Lib.hid (HO3.out.below hb4 hg2)
  have HT4 := Lib.hid (HT3.out.belowNew hb4)
  clear hb4 BR4
  go_wp2_with fail
  refine bodyPost_ret (v := .agg #[.int .i64 (k : Int), .int .i64 (x : Int), .int .i64 (y : Int), .int .i64 8, .int .i64 (u : Int), .int .i64 (v : Int), .int .i64 (ww : Int), .int .i64 (r : Int), .bool true, .int .i64 1]) (by simp only [results, Tryd.results107]; go_simp) rfl ⟨rfl, ?_, ?_⟩
  · (repeat refine Own.setOther ?_ (by assumption) _); exact HO4.out
  · (repeat refine Two.setNew ?_ (by first | exact Nat.le_refl _ | exact Nat.le_succ _) _); exact HT4.out



set_option maxRecDepth 100000 in
set_option maxHeartbeats 2000000 in
theorem unite_bn (g la ca cb : Nat) (b : Option Addr) (pr : List Int) (up : List Nat) (k x y u v ww r res : Nat) (w : World) {lo hi : Nat} (ho : Own w g up) (hl : up.length = la) (hq : Row lo hi w b la pr) (hhi : hi ≤ w.heap.size) (hu : u < la) (hv : v < la) (hm : la ≤ 1000000) (hbe : decide (bel pr u v) = true) (e : el up u ≠ u) :
    Calls Tryd.prog 107 #[.slice (some ⟨g, 0, none⟩) la ca, .slice b la cb, .agg #[.int .i64 (k : Int), .int .i64 (x : Int), .int .i64 (y : Int), .int .i64 8, .int .i64 (u : Int), .int .i64 (v : Int), .int .i64 (ww : Int), .int .i64 (r : Int), .bool false, .int .i64 (res : Int)]] w fun e w' => e = .returned (.agg #[.int .i64 (k : Int), .int .i64 (x : Int), .int .i64 (y : Int), .int .i64 1, .int .i64 (u : Int), .int .i64 (v : Int), .int .i64 (ww : Int), .int .i64 (r : Int), .bool false, .int .i64 (res : Int)]) ∧ Own w' g (up) ∧ Two g g w w' := by
  have hmm := @run_makeMap Tryd.prog
  have HL := Lib.hid hl
  have HO := Lib.hid ho
  have HQ := Lib.hid hq
  have HE := Lib.hid e
  have HBE := Lib.hid hbe
  have hg := ho.1
  clear hl ho hq e hbe
  obtain ⟨kl, hkey⟩ := ch_key (a := (u : Int)) (b := (u : Int)) (c := (v : Int)) (by unfold fits; omega) (by unfold fits; omega) (by unfold fits; omega)
  have HK := Lib.hid hkey
  clear hkey
  go_enter Tryd.func107, Tryd.ntmps107
  go_wp2_with fail
  refine (below_v _ _ _ pr u v _ (((HQ.out.alloc hhi _).alloc (by simp; omega) _).alloc (by simp; omega) _) hu hv hm true HBE.out).mono ?_
  rintro e w1 ⟨rfl, m, hw1⟩
  obtain ⟨BT, BR, BC⟩ := two_news w [.int .i64 (k : Int), .int .i64 (x : Int), .int .i64 (y : Int), .int .i64 8, .int .i64 (u : Int), .int .i64 (v : Int), .int .i64 (ww : Int), .int .i64 (r : Int), .bool false, .int .i64 (res : Int)] [.int .i64 0, .int .i64 0, .int .i64 0, .int .i64 0, .int .i64 0, .int .i64 0, .int .i64 0, .int .i64 0, .bool false, .int .i64 0] [.int .i64 (v : Int), .int .i64 (v : Int), .int .i64 (u : Int)] 81 81 193
  have HB : Hid (Box w1 w.heap.size 81 [.int .i64 (k : Int), .int .i64 (x : Int), .int .i64 (y : Int), .int .i64 8, .int .i64 (u : Int), .int .i64 (v : Int), .int .i64 (ww : Int), .int .i64 (r : Int), .bool false, .int .i64 (res : Int)] ∧ Box w1 (w.heap.size + 1) 81 [.int .i64 0, .int .i64 0, .int .i64 0, .int .i64 0, .int .i64 0, .int .i64 0, .int .i64 0, .int .i64 0, .bool false, .int .i64 0] ∧ Box w1 (w.heap.size + 2) 193 [.int .i64 (v : Int), .int .i64 (v : Int), .int .i64 (u : Int)]) := by subst hw1; exact ⟨BT, BR, BC⟩
  have hs1 : w1.heap.size = w.heap.size + 3 := by subst hw1; simp [size_drewN']
  have HO1 : Hid (Own w1 g up) := by subst hw1; exact (((HO.out.alloc _).alloc _).alloc _).drewN _
  have HT1 : Hid (Two g g w w1) := by subst hw1; exact ((((Two.refl g g w).alloc _).alloc _).alloc _).drewN _
  clear hw1 BT BR BC
  obtain ⟨_, _, _, _, _, _, _, _, _, _⟩ := HB.out.1.ten
  obtain ⟨_, _, _, _, _, _, _, _, _, _⟩ := HB.out.1.tenf
  obtain ⟨_, _, _, _, _, _⟩ := HB.out.2.2.three
  have hg1 := HO1.out.1
  have n1 : w.heap.size ≠ g := by omega
  have n2 : w.heap.size + 1 ≠ g := by omega
  have n3 : w.heap.size + 2 ≠ g := by omega
  have n4 : g ≠ w.heap.size := by omega
  have n5 : g ≠ w.heap.size + 1 := by omega
  have n6 : g ≠ w.heap.size + 2 := by omega
  have q1 : w.heap.size < w1.heap.size := by omega
  have q2 : w.heap.size + 1 < w1.heap.size := by omega
  have q3 : w.heap.size + 2 < w1.heap.size := by omega
  have HS1 := Lib.hid hs1
  clear hs1
  have E1 := run_fill_new (((w1.setCell ⟨w.heap.size + 2, 0, none⟩ (.int .i64 (u : Int))).setCell ⟨w.heap.size + 2, 1, none⟩ (.int .i64 (u : Int))).setCell ⟨w.heap.size + 2, 2, none⟩ (.int .i64 (v : Int))) HK.out
  try simp only [World.size_setCell] at E1
  go_wp2_with fail
  have HO2 : Hid (Own (((w1.setCell ⟨w.heap.size + 2, 0, none⟩ (.int .i64 (u : Int))).setCell ⟨w.heap.size + 2, 1, none⟩ (.int .i64 (u : Int))).setCell ⟨w.heap.size + 2, 2, none⟩ (.int .i64 (v : Int))) g up) := by (repeat refine Own.setOther ?_ (by assumption) _); exact HO1.out
  have HT2 : Hid (Two g w1.heap.size w (((w1.setCell ⟨w.heap.size + 2, 0, none⟩ (.int .i64 (u : Int))).setCell ⟨w.heap.size + 2, 1, none⟩ (.int .i64 (u : Int))).setCell ⟨w.heap.size + 2, 2, none⟩ (.int .i64 (v : Int)))) := ⟨HT1.out.os, HT1.out.tape, HT1.out.output, by first | exact HT1.out.size | (simp; exact HT1.out.size), fun k hk h1 h2 => (Below.heap_setCell _ _ _ _ (by show k ≠ w.heap.size + 2; omega)).trans ((Below.heap_setCell _ _ _ _ (by show k ≠ w.heap.size + 2; omega)).trans ((Below.heap_setCell _ _ _ _ (by show k ≠ w.heap.size + 2; omega)).trans (HT1.out.block k hk h1 h1)))⟩
  have HB2 : Hid (Box (((w1.setCell ⟨w.heap.size + 2, 0, none⟩ (.int .i64 (u : Int))).setCell ⟨w.heap.size + 2, 1, none⟩ (.int .i64 (u : Int))).setCell ⟨w.heap.size + 2, 2, none⟩ (.int .i64 (v : Int))) w.heap.size 81 [.int .i64 (k : Int), .int .i64 (x : Int), .int .i64 (y : Int), .int .i64 8, .int .i64 (u : Int), .int .i64 (v : Int), .int .i64 (ww : Int), .int .i64 (r : Int), .bool false, .int .i64 (res : Int)] ∧ Box (((w1.setCell ⟨w.heap.size + 2, 0, none⟩ (.int .i64 (u : Int))).setCell ⟨w.heap.size + 2, 1, none⟩ (.int .i64 (u : Int))).setCell ⟨w.heap.size + 2, 2, none⟩ (.int .i64 (v : Int))) (w.heap.size + 1) 81 [.int .i64 0, .int .i64 0, .int .i64 0, .int .i64 0, .int .i64 0, .int .i64 0, .int .i64 0, .int .i64 0, .bool false, .int .i64 0] ∧ Box (((w1.setCell ⟨w.heap.size + 2, 0, none⟩ (.int .i64 (u : Int))).setCell ⟨w.heap.size + 2, 1, none⟩ (.int .i64 (u : Int))).setCell ⟨w.heap.size + 2, 2, none⟩ (.int .i64 (v : Int))) (w.heap.size + 2) 193 [.int .i64 (u : Int), .int .i64 (u : Int), .int .i64 (v : Int)]) := ⟨((HB.out.1.setOther (a := ⟨w.heap.size + 2, 0, none⟩) (by show w.heap.size ≠ w.heap.size + 2; omega) _).setOther (a := ⟨w.heap.size + 2, 1, none⟩) (by show w.heap.size ≠ w.heap.size + 2; omega) _).setOther (a := ⟨w.heap.size + 2, 2, none⟩) (by show w.heap.size ≠ w.heap.size + 2; omega) _, ((HB.out.2.1.setOther (a := ⟨w.heap.size + 2, 0, none⟩) (by show w.heap.size + 1 ≠ w.heap.size + 2; omega) _).setOther (a := ⟨w.heap.size + 2, 1, none⟩) (by show w.heap.size + 1 ≠ w.heap.size + 2; omega) _).setOther (a := ⟨w.heap.size + 2, 2, none⟩) (by show w.heap.size + 1 ≠ w.heap.size + 2; omega) _, ((HB.out.2.2.set 0 _).set 1 _).set 2 _⟩
  refine (into_no w1.heap.size g la ca up u u v _ ?i1 (HO2.out.alloc _) HL.out hu hu hv HE.out hm (by omega)).mono ?_
  case i1 => have := heap_alloc_new (((w1.setCell ⟨w.heap.size + 2, 0, none⟩ (.int .i64 (u : Int))).setCell ⟨w.heap.size + 2, 1, none⟩ (.int .i64 (u : Int))).setCell ⟨w.heap.size + 2, 2, none⟩ (.int .i64 (v : Int))) (oneMap (.agg #[.int .i64 (u : Int), .int .i64 (u : Int), .int .i64 (v : Int)]) 0); simpa using this
  rintro e w2 ⟨rfl, ho3, hm3, ht3⟩
  have BT3 := ht3.box (HB2.out.1.alloc _) n1 (by omega)
  have BR3 := ht3.box (HB2.out.2.1.alloc _) n2 (by omega)
  have BC3 := ht3.box (HB2.out.2.2.alloc _) n3 (by omega)
  have HT3 : Hid (Two g g w w2) := ((HT2.out.alloc _).trans ht3).one (by omega)
  have HO3 := Lib.hid ho3
  have hs3 := ht3.size
  simp only [World.size_alloc, World.size_setCell] at hs3
  have E2 := run_look hm3 HK.out
  have r1 : w.heap.size < w2.heap.size := by omega
  have r2 : w.heap.size + 1 < w2.heap.size := by omega
  have r3 : w.heap.size + 2 < w2.heap.size := by omega
  have hg2 := ho3.1
  clear ht3 hm3 ho3 E1 q1 q2 q3
  obtain ⟨_, _, _, _, _, _, _, _, _, _⟩ := BT3.ten
  obtain ⟨_, _, _, _, _, _, _, _, _, _⟩ := BT3.tenf
  obtain ⟨_, _, _, _, _, _⟩ := BC3.three
  obtain ⟨_, _, _, _, _, _, _, _, _, _⟩ := BR3.ten
  obtain ⟨_, _, _, _, _, _, _, _, _, _⟩ := BR3.tenf
  clear BT3 BR3 BC3
  go_wp2_with fail
  refine bodyPost_ret (v := .agg #[.int .i64 (k : Int), .int .i64 (x : Int), .int .i64 (y : Int), .int .i64 1, .int .i64 (u : Int), .int .i64 (v : Int), .int .i64 (ww : Int), .int .i64 (r : Int), .bool false, .int .i64 (res : Int)]) (by simp only [results, Tryd.results107]; go_simp) rfl ⟨rfl, ?_, ?_⟩
  · (repeat refine Own.setOther ?_ (by assumption) _); exact HO3.out
  · (repeat refine Two.setNew ?_ (by first | exact Nat.le_refl _ | exact Nat.le_succ _) _); exact HT3.out



set_option maxRecDepth 100000 in
set_option maxHeartbeats 2000000 in
theorem unite_ay (g la ca cb : Nat) (b : Option Addr) (pr : List Int) (up : List Nat) (k x y u v ww r res : Nat) (w : World) {lo hi : Nat} (ho : Own w g up) (hl : up.length = la) (hq : Row lo hi w b la pr) (hhi : hi ≤ w.heap.size) (hu : u < la) (hv : v < la) (hm : la ≤ 1000000) (hbe : decide (bel pr u v) = false) (e : el up v = v) :
    Calls Tryd.prog 107 #[.slice (some ⟨g, 0, none⟩) la ca, .slice b la cb, .agg #[.int .i64 (k : Int), .int .i64 (x : Int), .int .i64 (y : Int), .int .i64 8, .int .i64 (u : Int), .int .i64 (v : Int), .int .i64 (ww : Int), .int .i64 (r : Int), .bool false, .int .i64 (res : Int)]] w fun e w' => e = .returned (.agg #[.int .i64 (k : Int), .int .i64 (x : Int), .int .i64 (y : Int), .int .i64 8, .int .i64 (u : Int), .int .i64 (v : Int), .int .i64 (ww : Int), .int .i64 (r : Int), .bool true, .int .i64 1]) ∧ Own w' g (up.set v u) ∧ Two g g w w' := by
  have hmm := @run_makeMap Tryd.prog
  have HL := Lib.hid hl
  have HO := Lib.hid ho
  have HQ := Lib.hid hq
  have HE := Lib.hid e
  have HBE := Lib.hid hbe
  have hg := ho.1
  clear hl ho hq e hbe
  obtain ⟨kl, hkey⟩ := ch_key (a := (v : Int)) (b := (v : Int)) (c := (u : Int)) (by unfold fits; omega) (by unfold fits; omega) (by unfold fits; omega)
  have HK := Lib.hid hkey
  clear hkey
  go_enter Tryd.func107, Tryd.ntmps107
  go_wp2_with fail
  refine (below_v _ _ _ pr u v _ (((HQ.out.alloc hhi _).alloc (by simp; omega) _).alloc (by simp; omega) _) hu hv hm false HBE.out).mono ?_
  rintro e w1 ⟨rfl, m, hw1⟩
  obtain ⟨BT, BR, BC⟩ := two_news w [.int .i64 (k : Int), .int .i64 (x : Int), .int .i64 (y : Int), .int .i64 8, .int .i64 (u : Int), .int .i64 (v : Int), .int .i64 (ww : Int), .int .i64 (r : Int), .bool false, .int .i64 (res : Int)] [.int .i64 0, .int .i64 0, .int .i64 0, .int .i64 0, .int .i64 0, .int .i64 0, .int .i64 0, .int .i64 0, .bool false, .int .i64 0] [.int .i64 (v : Int), .int .i64 (v : Int), .int .i64 (u : Int)] 81 81 193
  have HB : Hid (Box w1 w.heap.size 81 [.int .i64 (k : Int), .int .i64 (x : Int), .int .i64 (y : Int), .int .i64 8, .int .i64 (u : Int), .int .i64 (v : Int), .int .i64 (ww : Int), .int .i64 (r : Int), .bool false, .int .i64 (res : Int)] ∧ Box w1 (w.heap.size + 1) 81 [.int .i64 0, .int .i64 0, .int .i64 0, .int .i64 0, .int .i64 0, .int .i64 0, .int .i64 0, .int .i64 0, .bool false, .int .i64 0] ∧ Box w1 (w.heap.size + 2) 193 [.int .i64 (v : Int), .int .i64 (v : Int), .int .i64 (u : Int)]) := by subst hw1; exact ⟨BT, BR, BC⟩
  have hs1 : w1.heap.size = w.heap.size + 3 := by subst hw1; simp [size_drewN']
  have HO1 : Hid (Own w1 g up) := by subst hw1; exact (((HO.out.alloc _).alloc _).alloc _).drewN _
  have HT1 : Hid (Two g g w w1) := by subst hw1; exact ((((Two.refl g g w).alloc _).alloc _).alloc _).drewN _
  clear hw1 BT BR BC
  obtain ⟨_, _, _, _, _, _, _, _, _, _⟩ := HB.out.1.ten
  obtain ⟨_, _, _, _, _, _, _, _, _, _⟩ := HB.out.1.tenf
  obtain ⟨_, _, _, _, _, _⟩ := HB.out.2.2.three
  have hg1 := HO1.out.1
  have n1 : w.heap.size ≠ g := by omega
  have n2 : w.heap.size + 1 ≠ g := by omega
  have n3 : w.heap.size + 2 ≠ g := by omega
  have n4 : g ≠ w.heap.size := by omega
  have n5 : g ≠ w.heap.size + 1 := by omega
  have n6 : g ≠ w.heap.size + 2 := by omega
  have q1 : w.heap.size < w1.heap.size := by omega
  have q2 : w.heap.size + 1 < w1.heap.size := by omega
  have q3 : w.heap.size + 2 < w1.heap.size := by omega
  have HS1 := Lib.hid hs1
  clear hs1
  have E1 := run_fill_new w1 HK.out
  try simp only [World.size_setCell] at E1
  go_wp2_with fail
  have HO2 : Hid (Own w1 g up) := by (repeat refine Own.setOther ?_ (by assumption) _); exact HO1.out
  have HT2 : Hid (Two g w1.heap.size w w1) := ⟨HT1.out.os, HT1.out.tape, HT1.out.output, by first | exact HT1.out.size | (simp; exact HT1.out.size), fun k hk h1 h2 => HT1.out.block k hk h1 h1⟩
  have HB2 : Hid (Box w1 w.heap.size 81 [.int .i64 (k : Int), .int .i64 (x : Int), .int .i64 (y : Int), .int .i64 8, .int .i64 (u : Int), .int .i64 (v : Int), .int .i64 (ww : Int), .int .i64 (r : Int), .bool false, .int .i64 (res : Int)] ∧ Box w1 (w.heap.size + 1) 81 [.int .i64 0, .int .i64 0, .int .i64 0, .int .i64 0, .int .i64 0, .int .i64 0, .int .i64 0, .int .i64 0, .bool false, .int .i64 0] ∧ Box w1 (w.heap.size + 2) 193 [.int .i64 (v : Int), .int .i64 (v : Int), .int .i64 (u : Int)]) := HB.out
  refine (into_yes w1.heap.size g la ca up v v u _ ?i1 (HO2.out.alloc _) HL.out hv hv hu HE.out hm (by omega)).mono ?_
  case i1 => have := heap_alloc_new w1 (oneMap (.agg #[.int .i64 (v : Int), .int .i64 (v : Int), .int .i64 (u : Int)]) 0); simpa using this
  rintro e w2 ⟨rfl, ho3, hm3, ht3⟩
  have BT3 := ht3.box (HB2.out.1.alloc _) n1 (by omega)
  have BR3 := ht3.box (HB2.out.2.1.alloc _) n2 (by omega)
  have BC3 := ht3.box (HB2.out.2.2.alloc _) n3 (by omega)
  have HT3 : Hid (Two g g w w2) := ((HT2.out.alloc _).trans ht3).one (by omega)
  have HO3 := Lib.hid ho3
  have hs3 := ht3.size
  simp only [World.size_alloc, World.size_setCell] at hs3
  have E2 := run_look hm3 HK.out
  have r1 : w.heap.size < w2.heap.size := by omega
  have r2 : w.heap.size + 1 < w2.heap.size := by omega
  have r3 : w.heap.size + 2 < w2.heap.size := by omega
  have hg2 := ho3.1
  clear ht3 hm3 ho3 E1 q1 q2 q3
  obtain ⟨_, _, _, _, _, _, _, _, _, _⟩ := BT3.ten
  obtain ⟨_, _, _, _, _, _, _, _, _, _⟩ := BT3.tenf
  obtain ⟨_, _, _, _, _, _⟩ := BC3.three
  have HR3 := Lib.hid BR3
  clear BT3 BR3 BC3
  go_wp2_with fail
  refine (done_lit _ _ _ _ _ _ _ _ _ _ _ _).mono ?_
  rintro e w3 ⟨rfl, hb4⟩
  have hs4 := hb4.size
  have BR4 := HR3.out.below hb4
  obtain ⟨_, _, _, _, _, _, _, _, _, _⟩ := BR4.ten
  obtain ⟨_, _, _, _, _, _, _, _, _, _⟩ := BR4.tenf
  have t2 : w.heap.size + 1 < w3.heap.size := by omega
  have HO4 := Lib.hid (HO3.out.below hb4 hg2)
  have HT4 := Lib.hid (HT3.out.belowNew hb4)
  clear hb4 BR4
  go_wp2_with fail
  refine bodyPost_ret (v := .agg #[.int .i64 (k : Int), .int .i64 (x : Int), .int .i64 (y : Int), .int .i64 8, .int .i64 (u : Int), .int .i64 (v : Int), .int .i64 (ww : Int), .int .i64 (r : Int), .bool true, .int .i64 1]) (by simp only [results, Tryd.results107]; go_simp) rfl ⟨rfl, ?_, ?_⟩
  · (repeat refine Own.setOther ?_ (by assumption) _); exact HO4.out
  · (repeat refine Two.setNew ?_ (by first | exact Nat.le_refl _ | exact Nat.le_succ _) _); exact HT4.out



set_option maxRecDepth 100000 in
set_option maxHeartbeats 2000000 in
theorem unite_an (g la ca cb : Nat) (b : Option Addr) (pr : List Int) (up : List Nat) (k x y u v ww r res : Nat) (w : World) {lo hi : Nat} (ho : Own w g up) (hl : up.length = la) (hq : Row lo hi w b la pr) (hhi : hi ≤ w.heap.size) (hu : u < la) (hv : v < la) (hm : la ≤ 1000000) (hbe : decide (bel pr u v) = false) (e : el up v ≠ v) :
    Calls Tryd.prog 107 #[.slice (some ⟨g, 0, none⟩) la ca, .slice b la cb, .agg #[.int .i64 (k : Int), .int .i64 (x : Int), .int .i64 (y : Int), .int .i64 8, .int .i64 (u : Int), .int .i64 (v : Int), .int .i64 (ww : Int), .int .i64 (r : Int), .bool false, .int .i64 (res : Int)]] w fun e w' => e = .returned (.agg #[.int .i64 (k : Int), .int .i64 (x : Int), .int .i64 (y : Int), .int .i64 1, .int .i64 (u : Int), .int .i64 (v : Int), .int .i64 (ww : Int), .int .i64 (r : Int), .bool false, .int .i64 (res : Int)]) ∧ Own w' g (up) ∧ Two g g w w' := by
  have hmm := @run_makeMap Tryd.prog
  have HL := Lib.hid hl
  have HO := Lib.hid ho
  have HQ := Lib.hid hq
  have HE := Lib.hid e
  have HBE := Lib.hid hbe
  have hg := ho.1
  clear hl ho hq e hbe
  obtain ⟨kl, hkey⟩ := ch_key (a := (v : Int)) (b := (v : Int)) (c := (u : Int)) (by unfold fits; omega) (by unfold fits; omega) (by unfold fits; omega)
  have HK := Lib.hid hkey
  clear hkey
  go_enter Tryd.func107, Tryd.ntmps107
  go_wp2_with fail
  refine (below_v _ _ _ pr u v _ (((HQ.out.alloc hhi _).alloc (by simp; omega) _).alloc (by simp; omega) _) hu hv hm false HBE.out).mono ?_
  rintro e w1 ⟨rfl, m, hw1⟩
  obtain ⟨BT, BR, BC⟩ := two_news w [.int .i64 (k : Int), .int .i64 (x : Int), .int .i64 (y : Int), .int .i64 8, .int .i64 (u : Int), .int .i64 (v : Int), .int .i64 (ww : Int), .int .i64 (r : Int), .bool false, .int .i64 (res : Int)] [.int .i64 0, .int .i64 0, .int .i64 0, .int .i64 0, .int .i64 0, .int .i64 0, .int .i64 0, .int .i64 0, .bool false, .int .i64 0] [.int .i64 (v : Int), .int .i64 (v : Int), .int .i64 (u : Int)] 81 81 193
  have HB : Hid (Box w1 w.heap.size 81 [.int .i64 (k : Int), .int .i64 (x : Int), .int .i64 (y : Int), .int .i64 8, .int .i64 (u : Int), .int .i64 (v : Int), .int .i64 (ww : Int), .int .i64 (r : Int), .bool false, .int .i64 (res : Int)] ∧ Box w1 (w.heap.size + 1) 81 [.int .i64 0, .int .i64 0, .int .i64 0, .int .i64 0, .int .i64 0, .int .i64 0, .int .i64 0, .int .i64 0, .bool false, .int .i64 0] ∧ Box w1 (w.heap.size + 2) 193 [.int .i64 (v : Int), .int .i64 (v : Int), .int .i64 (u : Int)]) := by subst hw1; exact ⟨BT, BR, BC⟩
  have hs1 : w1.heap.size = w.heap.size + 3 := by subst hw1; simp [size_drewN']
  have HO1 : Hid (Own w1 g up) := by subst hw1; exact (((HO.out.alloc _).alloc _).alloc _).drewN _
  have HT1 : Hid (Two g g w w1) := by subst hw1; exact ((((Two.refl g g w).alloc _).alloc _).alloc _).drewN _
  clear hw1 BT BR BC
  obtain ⟨_, _, _, _, _, _, _, _, _, _⟩ := HB.out.1.ten
  obtain ⟨_, _, _, _, _, _, _, _, _, _⟩ := HB.out.1.tenf
  obtain ⟨_, _, _, _, _, _⟩ := HB.out.2.2.three
  have hg1 := HO1.out.1
  have n1 : w.heap.size ≠ g := by omega
  have n2 : w.heap.size + 1 ≠ g := by omega
  have n3 : w.heap.size + 2 ≠ g := by omega
  have n4 : g ≠ w.heap.size := by omega
  have n5 : g ≠ w.heap.size + 1 := by omega
  have n6 : g ≠ w.heap.size + 2 := by omega
  have q1 : w.heap.size < w1.heap.size := by omega
  have q2 : w.heap.size + 1 < w1.heap.size := by omega
  have q3 : w.heap.size + 2 < w1.heap.size := by omega
  have HS1 := Lib.hid hs1
  clear hs1
  have E1 := run_fill_new w1 HK.out
  try simp only [World.size_setCell] at E1
  go_wp2_with fail
  have HO2 : Hid (Own w1 g up) := by (repeat refine Own.setOther ?_ (by assumption) _); exact HO1.out
  have HT2 : Hid (Two g w1.heap.size w w1) := ⟨HT1.out.os, HT1.out.tape, HT1.out.output, by first | exact HT1.out.size | (simp; exact HT1.out.size), fun k hk h1 h2 => HT1.out.block k hk h1 h1⟩
  have HB2 : Hid (Box w1 w.heap.size 81 [.int .i64 (k : Int), .int .i64 (x : Int), .int .i64 (y : Int), .int .i64 8, .int .i64 (u : Int), .int .i64 (v : Int), .int .i64 (ww : Int), .int .i64 (r : Int), .bool false, .int .i64 (res : Int)] ∧ Box w1 (w.heap.size + 1) 81 [.int .i64 0, .int .i64 0, .int .i64 0, .int .i64 0, .int .i64 0, .int .i64 0, .int .i64 0, .int .i64 0, .bool false, .int .i64 0] ∧ Box w1 (w.heap.size + 2) 193 [.int .i64 (v : Int), .int .i64 (v : Int), .int .i64 (u : Int)]) := HB.out
  refine (into_no w1.heap.size g la ca up v v u _ ?i1 (HO2.out.alloc _) HL.out hv hv hu HE.out hm (by omega)).mono ?_
  case i1 => have := heap_alloc_new w1 (oneMap (.agg #[.int .i64 (v : Int), .int .i64 (v : Int), .int .i64 (u : Int)]) 0); simpa using this
  rintro e w2 ⟨rfl, ho3, hm3, ht3⟩
  have BT3 := ht3.box (HB2.out.1.alloc _) n1 (by omega)
  have BR3 := ht3.box (HB2.out.2.1.alloc _) n2 (by omega)
  have BC3 := ht3.box (HB2.out.2.2.alloc _) n3 (by omega)
  have HT3 : Hid (Two g g w w2) := ((HT2.out.alloc _).trans ht3).one (by omega)
  have HO3 := Lib.hid ho3
  have hs3 := ht3.size
  simp only [World.size_alloc, World.size_setCell] at hs3
  have E2 := run_look hm3 HK.out
  have r1 : w.heap.size < w2.heap.size := by omega
  have r2 : w.heap.size + 1 < w2.heap.size := by omega
  have r3 : w.heap.size + 2 < w2.heap.size := by omega
  have hg2 := ho3.1
  clear ht3 hm3 ho3 E1 q1 q2 q3
  obtain ⟨_, _, _, _, _, _, _, _, _, _⟩ := BT3.ten
  obtain ⟨_, _, _, _, _, _, _, _, _, _⟩ := BT3.tenf
  obtain ⟨_, _, _, _, _, _⟩ := BC3.three
  obtain ⟨_, _, _, _, _, _, _, _, _, _⟩ := BR3.ten
  obtain ⟨_, _, _, _, _, _, _, _, _, _⟩ := BR3.tenf
  clear BT3 BR3 BC3
  go_wp2_with fail
  refine bodyPost_ret (v := .agg #[.int .i64 (k : Int), .int .i64 (x : Int), .int .i64 (y : Int), .int .i64 1, .int .i64 (u : Int), .int .i64 (v : Int), .int .i64 (ww : Int), .int .i64 (r : Int), .bool false, .int .i64 (res : Int)]) (by simp only [results, Tryd.results107]; go_simp) rfl ⟨rfl, ?_, ?_⟩
  · (repeat refine Own.setOther ?_ (by assumption) _); exact HO3.out
  · (repeat refine Two.setNew ?_ (by first | exact Nat.le_refl _ | exact Nat.le_succ _) _); exact HT3.out



end Go.Proofs.YtpfcpeljfgmjgaaDoor
