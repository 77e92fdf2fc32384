/- awake of the statements: the document's example. -/
import Derived.Test.YtdbjmonboecfgaaGgo
namespace Go.Proofs.Ytdbjmonboecfgaa
open Go.RowKit Go.Maps
set_option linter.unusedVariables false
set_option linter.unusedSimpArgs false

theorem awake_edges : Rch [[1], [0]] 0 1 ∧ Rch [[1], [0]] 1 0 :=
  ⟨Rch.one ⟨by decide, by decide⟩, Rch.one ⟨by decide, by decide⟩⟩
theorem awake_groups : grpL [[1], [0]] = [[0, 1]] := by
  have m : ∀ i j, i < 2 → j < 2 → mutB [[1], [0]] i j = true := fun i j hi hj => by
    rw [mutB_iff (by simpa using hi) (by simpa using hj)]
    rcases (show i = 0 ∨ i = 1 by omega) with rfl | rfl <;> rcases (show j = 0 ∨ j = 1 by omega) with rfl | rfl
    · exact ⟨.refl, .refl⟩
    · exact awake_edges
    · exact ⟨awake_edges.2, awake_edges.1⟩
    · exact ⟨.refl, .refl⟩
  have e : grpL [[1], [0]] = grpI (fun _ _ => true) 2 := grp2_congr (Nat.le_refl _) fun i j hi hj => m i j hi hj
  rw [e]
  rfl
theorem gi_rows {w : World} {b : Nat} {g : Gr} {vs : List Value} (hb : Box w b 26 vs) (hz : g.length ≤ 1000000) (hr : ∀ i, (rowG g i).length ≤ 1000000) (h : ∀ i, i < g.length → ∃ ai ci, vs[i]? = some (.slice ai (rowG g i).length ci) ∧ Row 0 w.heap.size w ai (rowG g i).length (rowG g i)) : GI w.heap.size w (some ⟨b, 0, none⟩) g.length g := by
  refine ⟨rfl, hz, hr, .inr ⟨b, 0, rfl, hb.lt, fun i hi => ?_⟩⟩
  obtain ⟨ai, ci, h1, h2⟩ := h i hi
  exact ⟨ai, ci, by rw [Nat.zero_add, hb.cell]; exact h1, h2⟩
theorem row_box {w : World} {b : Nat} {r : List Int} (hb : Box w b 3 (r.map (Value.int .i64))) : Row 0 w.heap.size w (some ⟨b, 0, none⟩) r.length r :=
  ⟨rfl, .inr ⟨b, 0, rfl, Nat.zero_le _, hb.lt, fun i hi => by rw [Nat.zero_add, hb.cell]; simp [List.getD, hi]⟩⟩
theorem box_at1 (W : World) (t : TypeId) (o : Obj) (cs : List Value) : Box ((W.alloc o).alloc (.cells cs.toArray t)) (W.heap.size + 1) t cs := by
  have h := Box.new (W.alloc o) t cs
  rw [World.size_alloc] at h
  exact h
theorem box_at2 (W : World) (t : TypeId) (o o2 : Obj) (cs : List Value) : Box (((W.alloc o).alloc o2).alloc (.cells cs.toArray t)) (W.heap.size + 1 + 1) t cs := by
  have h := Box.new ((W.alloc o).alloc o2) t cs
  rw [World.size_alloc, World.size_alloc] at h
  exact h
theorem gi_two (w : World) : GI (((w.alloc (.cells #[.int .i64 1] 3)).alloc (.cells #[.int .i64 0] 3)).alloc (.cells #[.slice (some ⟨w.heap.size, 0, none⟩) 1 1, .slice (some ⟨w.heap.size + 1, 0, none⟩) 1 1] 26)).heap.size (((w.alloc (.cells #[.int .i64 1] 3)).alloc (.cells #[.int .i64 0] 3)).alloc (.cells #[.slice (some ⟨w.heap.size, 0, none⟩) 1 1, .slice (some ⟨w.heap.size + 1, 0, none⟩) 1 1] 26)) (some ⟨w.heap.size + 1 + 1, 0, none⟩) 2 [[1], [0]] := by
  refine gi_rows (g := [[1], [0]]) (box_at2 w _ _ _ [.slice (some ⟨w.heap.size, 0, none⟩) 1 1, .slice (some ⟨w.heap.size + 1, 0, none⟩) 1 1]) (by simp) (fun i => by match i with | 0 => simp [rowG] | 1 => simp [rowG] | i + 2 => simp [rowG]) fun i hi => ?_
  match i, hi with
  | 0, _ => exact ⟨_, _, rfl, row_box (r := [1]) (((Box.new w _ [.int .i64 1]).alloc _).alloc _)⟩
  | 1, _ => exact ⟨_, _, rfl, row_box (r := [0]) ((box_at1 w _ _ [.int .i64 0]).alloc _)⟩
theorem gi_one (w : World) : GI ((w.alloc (.cells #[.int .i64 0, .int .i64 1] 3)).alloc (.cells #[.slice (some ⟨w.heap.size, 0, none⟩) 2 2] 26)).heap.size ((w.alloc (.cells #[.int .i64 0, .int .i64 1] 3)).alloc (.cells #[.slice (some ⟨w.heap.size, 0, none⟩) 2 2] 26)) (some ⟨w.heap.size + 1, 0, none⟩) 1 [[0, 1]] := by
  refine gi_rows (g := [[0, 1]]) (box_at1 w _ _ [.slice (some ⟨w.heap.size, 0, none⟩) 2 2]) (by simp) (fun i => by match i with | 0 => simp [rowG] | i + 1 => simp [rowG]) fun i hi => ?_
  match i, hi with
  | 0, _ => exact ⟨_, _, rfl, row_box (r := [0, 1]) ((Box.new w _ [.int .i64 0, .int .i64 1]).alloc _)⟩

set_option maxRecDepth 100000 in
theorem awake_any (w : World) : Calls Try.prog 10 #[] w fun e w' => e = .returned (.bool true) ∧ Below w.heap.size w w' := by
  have hba : Below w.heap.size w (((w.alloc (.cells #[.int .i64 1] 3)).alloc (.cells #[.int .i64 0] 3)).alloc (.cells #[.slice (some ⟨w.heap.size, 0, none⟩) 1 1, .slice (some ⟨w.heap.size + 1, 0, none⟩) 1 1] 26)) := below_alloc (below_alloc (below_alloc (Below.refl _ _) (Nat.le_refl _) _) (Nat.le_refl _) _) (Nat.le_refl _) _
  have HOF := Lib.hid (of_any _ 2 2 _ _ (gi_two w) (Nat.le_refl _) (by omega))
  rw [awake_groups] at HOF
  have HBA := Lib.hid hba
  clear hba
  go_enter Try.func10, Try.ntmps10
  go_wp2_with (first
    | (go_at_call 11; (with_reducible refine (HOF.out).mono ?_); rintro e w1 ⟨hb1, a, cc, rfl, hgi1⟩; have HGI1 := Lib.hid hgi1; have HB1 := Lib.hid (HBA.out.trans (hb1.mono HBA.out.size)); clear hgi1 hb1 HOF; have HSM := Lib.hid (same_any _ [[0, 1]] [[0, 1]] a _ 1 1 cc 1 (HGI1.out.below (below_alloc (below_alloc (Below.refl _ w1) (Nat.le_refl _) (.cells #[.int .i64 0, .int .i64 1] 3)) (Nat.le_refl _) (.cells #[.slice (some ⟨w1.heap.size, 0, none⟩) 2 2] 26)) (Nat.le_refl _)) (gi_one w1) (by simp; omega) (Nat.le_refl _)); have HBB : Hid (Below w.heap.size w ((w1.alloc (.cells #[.int .i64 0, .int .i64 1] 3)).alloc (.cells #[.slice (some ⟨w1.heap.size, 0, none⟩) 2 2] 26))) := below_alloc (below_alloc HB1.out (Nat.le_refl _) _) (Nat.le_refl _) _)
    | (go_at_call 12; (with_reducible refine (HSM.out).mono ?_); rintro e w2 ⟨rfl, hb2⟩; have HB2 := Lib.hid (HBB.out.trans (hb2.mono HBB.out.size)); clear hb2 HSM))
  go_ret
  exact ⟨by simp, HB2.out⟩

end Go.Proofs.Ytdbjmonboecfgaa
