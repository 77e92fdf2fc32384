/- Contract of again. -/
import Derived.Test.YthhcchdjeeigpaaDoorCfresh
namespace Go.Proofs.YthhcchdjeeigpaaDoor
open Go.RowKit
set_option linter.unusedVariables false
set_option linter.unusedSimpArgs false

set_option maxRecDepth 100000 in
set_option maxHeartbeats 2000000 in
theorem again_y (g la ca : Nat) (up : List Nat) (k x y u v ww r res : Nat) (w : World) (ho : Own w g up) (hl : up.length = la) (hu : u < la) (hm : la ≤ 1000000) (e : el up u = u) :
    Calls Tryd.prog 83 #[.slice (some ⟨g, 0, none⟩) la ca, .agg #[.int .i64 (k : Int), .int .i64 (x : Int), .int .i64 (y : Int), .int .i64 7, .int .i64 (u : Int), .int .i64 (v : Int), .int .i64 (ww : Int), .int .i64 (r : Int), .bool false, .int .i64 (res : Int)]] w fun e w' => e = .returned (.agg #[.int .i64 (k : Int), .int .i64 (x : Int), .int .i64 (y : Int), .int .i64 7, .int .i64 (u : Int), .int .i64 (v : Int), .int .i64 (u : Int), .int .i64 (r : Int), .bool true, .int .i64 0]) ∧ Below w.heap.size w w' := by
  have HL := Lib.hid hl
  have HO := Lib.hid ho
  have hg := ho.1
  clear hl ho
  have HE := Lib.hid e
  have hs : ((u : Int) == (u : Int)) = true := by simp
  clear e
  go_enter Tryd.func83, Tryd.ntmps83
  go_wp2_with (go_at_call 91; (with_reducible refine (look_in _ _ _ up u _ (((HO.out.alloc _).alloc _).row (lo := 0) (hi := w.heap.size) HL.out (Nat.zero_le _) hg) hu hm).mono ?_); rw [HE.out]; rintro e w' ⟨rfl, rfl⟩)
  refine (done_lit _ _ _ _ _ _ _ _ _ _ _ _).mono ?_
  rintro e w1 ⟨rfl, hb⟩
  have hs1 := hb.size
  simp only [World.size_alloc] at hs1
  have bx := (Box.new (w.alloc (.cells #[.int .i64 (k : Int), .int .i64 (x : Int), .int .i64 (y : Int), .int .i64 7, .int .i64 (u : Int), .int .i64 (v : Int), .int .i64 (u : Int), .int .i64 (r : Int), .bool false, .int .i64 (res : Int)] 87)) 87 [.int .i64 0, .int .i64 0, .int .i64 0, .int .i64 0, .int .i64 0, .int .i64 0, .int .i64 0, .int .i64 0, .bool false, .int .i64 0]).below hb
  rw [World.size_alloc] at bx
  obtain ⟨_, _, _, _, _, _, _, _, _, _⟩ := bx.ten
  obtain ⟨_, _, _, _, _, _, _, _, _, _⟩ := bx.tenf
  have hlt : w.heap.size + 1 < w1.heap.size := by omega
  have HB : Hid (Below w.heap.size w w1) := (below_two _ _ _).trans (hb.mono (by simp; omega))
  clear hb bx hs1
  go_wp2_with fail
  refine bodyPost_ret (v := .agg #[.int .i64 (k : Int), .int .i64 (x : Int), .int .i64 (y : Int), .int .i64 7, .int .i64 (u : Int), .int .i64 (v : Int), .int .i64 (u : Int), .int .i64 (r : Int), .bool true, .int .i64 0]) (by simp only [results, Tryd.results83]; go_simp) rfl ⟨rfl, ?_⟩
  (repeat refine Below.setCell ?_ (by first | exact Nat.le_refl _ | exact Nat.le_succ _) _); exact HB.out

set_option maxRecDepth 100000 in
set_option maxHeartbeats 2000000 in
theorem again_n (g la ca : Nat) (up : List Nat) (k x y u v ww r res : Nat) (w : World) (ho : Own w g up) (hl : up.length = la) (hu : u < la) (hm : la ≤ 1000000) (e : el up u ≠ u) :
    Calls Tryd.prog 83 #[.slice (some ⟨g, 0, none⟩) la ca, .agg #[.int .i64 (k : Int), .int .i64 (x : Int), .int .i64 (y : Int), .int .i64 7, .int .i64 (u : Int), .int .i64 (v : Int), .int .i64 (ww : Int), .int .i64 (r : Int), .bool false, .int .i64 (res : Int)]] w fun e w' => e = .returned (.agg #[.int .i64 (k : Int), .int .i64 (x : Int), .int .i64 (y : Int), .int .i64 1, .int .i64 (u : Int), .int .i64 (v : Int), .int .i64 (el up u : Int), .int .i64 (r : Int), .bool false, .int .i64 (res : Int)]) ∧ Below w.heap.size w w' := by
  have HL := Lib.hid hl
  have HO := Lib.hid ho
  have hg := ho.1
  clear hl ho
  obtain ⟨q, hq⟩ : ∃ q, el up u = q := ⟨_, rfl⟩
  rw [hq] at e ⊢
  have HE := Lib.hid hq
  have hs : ((q : Int) == (u : Int)) = false := by simp; omega
  clear e hq
  go_enter Tryd.func83, Tryd.ntmps83
  go_wp2_with (go_at_call 91; (with_reducible refine (look_in _ _ _ up u _ (((HO.out.alloc _).alloc _).row (lo := 0) (hi := w.heap.size) HL.out (Nat.zero_le _) hg) hu hm).mono ?_); rw [HE.out]; rintro e w' ⟨rfl, rfl⟩)
  refine bodyPost_ret (v := .agg #[.int .i64 (k : Int), .int .i64 (x : Int), .int .i64 (y : Int), .int .i64 1, .int .i64 (u : Int), .int .i64 (v : Int), .int .i64 (q : Int), .int .i64 (r : Int), .bool false, .int .i64 (res : Int)]) (by simp only [results, Tryd.results83]; go_simp) rfl ⟨rfl, ?_⟩
  exact below_two _ _ _

end Go.Proofs.YthhcchdjeeigpaaDoor
