/- Contract of into: a cell is changed, if it is what it was; then the change is counted. -/
import Derived.Test.YthhcchdjeeigpaaDoorTwo
import Derived.Test.YthhcchdjeeigpaaDoorCmap
namespace Go.Proofs.YthhcchdjeeigpaaDoor
open Go.RowKit
open Go.ChangeMaps (setBlock)
set_option linter.unusedVariables false
set_option linter.unusedSimpArgs false

theorem setBlock_last (w : World) (o o' : Obj) : setBlock (w.alloc o) w.heap.size o' = w.alloc o' := by
  unfold setBlock World.alloc
  have : (w.heap.push o).setIfInBounds w.heap.size o' = w.heap.push o' := by
    apply Array.toList_inj.1
    simp
  simp only [this]

section
variable {b1 b2 : Nat} {w w' w'' : World}
end
theorem Own.agreeC {w w' : World} {g : Nat} {p : List Nat} (h : Own w g p) (hs : w.heap.size ≤ w'.heap.size) (hb : w'.heap[g]? = w.heap[g]?) : Own w' g p := h.agree hb hs

set_option maxRecDepth 100000 in
set_option maxHeartbeats 2000000 in
theorem into_yes (bm g la ca : Nat) (up : List Nat) (at' was be : Nat) (w : World) (hm : w.heap[bm]? = some (oneMap (.agg #[.int .i64 (at' : Int), .int .i64 (was : Int), .int .i64 (be : Int)]) 0)) (ho : Own w g up) (hl : up.length = la) (hx : at' < la) (hw : was < la) (hb : be < la) (he : el up at' = was) (h6 : la ≤ 1000000) (hne : g ≠ bm) :
    Calls Tryd.prog 92 #[.map (some bm), .slice (some ⟨g, 0, none⟩) la ca] w fun e w' => e = .returned (.tuple #[]) ∧ Own w' g (up.set at' be) ∧ w'.heap[bm]? = some (oneMap (.agg #[.int .i64 (at' : Int), .int .i64 (was : Int), .int .i64 (be : Int)]) 1) ∧ Two g bm w w' := by
  obtain ⟨kl, hkey⟩ := ch_key (a := (at' : Int)) (b := (was : Int)) (c := (be : Int)) (by unfold fits; omega) (by unfold fits; omega) (by unfold fits; omega)
  have hrg : (Instr.range 171 (.map (some bm))).run Tryd.prog w = .ok (.pointer (some ⟨w.heap.size, 0, none⟩)) (w.alloc (.mapIter (some bm) 1 #[] 1)) := run_range_map w _ _ _ bm _ 1 Tryd.underlying171 hm
  have hbm : bm < w.heap.size := (Array.getElem?_eq_some_iff.1 hm).1
  have hm1 : (w.alloc (.mapIter (some bm) 1 #[] 1)).heap[bm]? = some (oneMap (.agg #[.int .i64 (at' : Int), .int .i64 (was : Int), .int .i64 (be : Int)]) 0) := (Below.heap_alloc w _ bm hbm).trans hm
  have hi1 : (w.alloc (.mapIter (some bm) 1 #[] 1)).heap[w.heap.size]? = some (.mapIter (some bm) 1 #[] 1) := heap_alloc_new _ _
  have hnx : ∀ ty, (Instr.next (.pointer (some ⟨w.heap.size, 0, none⟩)) false ty).run Tryd.prog (w.alloc (.mapIter (some bm) 1 #[] 1)) = .ok (.tuple #[.bool true, .agg #[.int .i64 (at' : Int), .int .i64 (was : Int), .int .i64 (be : Int)], .int .i64 0]) (w.alloc (.mapIter (some bm) 1 #[0] 1)) := fun ty => by
    rw [run_next_one ty hi1 hm1]; congr 1; exact setBlock_last _ _ _
  have hm2 : (w.alloc (.mapIter (some bm) 1 #[0] 1)).heap[bm]? = some (oneMap (.agg #[.int .i64 (at' : Int), .int .i64 (was : Int), .int .i64 (be : Int)]) 0) := (Below.heap_alloc w _ bm hbm).trans hm
  have hi2 : (w.alloc (.mapIter (some bm) 1 #[0] 1)).heap[w.heap.size]? = some (.mapIter (some bm) 1 #[0] 1) := heap_alloc_new _ _
  have hen := run_entry_one hi2 hm2
  obtain ⟨ca1, fa1⟩ := ho.2 at' (by omega)
  rw [he] at ca1
  have hg := ho.1
  have hx0 : (0 : Int) ≤ at' := by omega
  have hx1 : (at' : Int) < la := by omega
  have hs : ((was : Int) == (was : Int)) = true := by simp
  have HO := Lib.hid ho
  have HM := Lib.hid hm2
  have HI := Lib.hid hi2
  have HK := Lib.hid hkey
  have HL := Lib.hid hl
  clear hm hm1 hi1 hm2 hi2 ho he hkey hl
  go_enter Tryd.func92, Tryd.ntmps92
  go_wp2_with fail
  refine wp_loop_rounds 2 ?_
  rw [rounds_succ]
  go_wp2_with fail
  go_quiet ((go_at_call 87; refine Calls.quiet_of_same (there_yes_q _ _ _ hx0 hx1)))
  go_wp2_with fail
  have HM3 : Hid (((((w.alloc (.mapIter (some bm) 1 #[0] 1)).alloc (.cells #[.int .i64 (at' : Int), .int .i64 (was : Int), .int .i64 (be : Int)] 169)).drewN nq).setCell ⟨g, at', none⟩ (.int .i64 (be : Int))).drew.heap[bm]? = some (oneMap (.agg #[.int .i64 (at' : Int), .int .i64 (was : Int), .int .i64 (be : Int)]) 0)) :=
    (Below.heap_setCell _ _ _ bm (Ne.symm hne)).trans ((Below.heap_alloc _ _ bm (by simp; omega)).trans HM.out)
  have E1 := run_look HM3.out HK.out
  have E2 := run_entryOf HM3.out HK.out
  have E3 := run_entryPut HM3.out 1
  go_region
  have E4 : ∀ ty, (Instr.next (.pointer (some ⟨w.heap.size, 0, none⟩)) false ty).run Tryd.prog (setBlock (((((w.alloc (.mapIter (some bm) 1 #[0] 1)).alloc (.cells #[.int .i64 (at' : Int), .int .i64 (was : Int), .int .i64 (be : Int)] 169)).drewN nq).setCell ⟨g, at', none⟩ (.int .i64 (be : Int))).drew) bm (oneMap (.agg #[.int .i64 (at' : Int), .int .i64 (was : Int), .int .i64 (be : Int)]) 1)) = .ok (.tuple #[.bool false]) _ := fun ty =>
    run_next_none (n := 1) (key := (.agg #[.int .i64 (at' : Int), .int .i64 (was : Int), .int .i64 (be : Int)])) ty ((heap_setBlock_ne (by omega)).trans ((Below.heap_setCell _ _ _ w.heap.size (by show w.heap.size ≠ g; omega)).trans ((Below.heap_alloc _ _ w.heap.size (by simp)).trans HI.out))) (heap_setBlock_eq (Array.getElem?_eq_some_iff.1 HM3.out).1)
  go_wp2_with fail
  rw [rounds_succ]
  go_wp2_with fail
  go_end0
  have h1 := (Array.getElem?_eq_some_iff.1 HM3.out).1
  refine ⟨rfl, ?_, heap_setBlock_eq h1, ?_⟩
  · refine Own.agreeC (w := ((((w.alloc (.mapIter (some bm) 1 #[0] 1)).alloc (.cells #[.int .i64 (at' : Int), .int .i64 (was : Int), .int .i64 (be : Int)] 169)).drewN nq).setCell ⟨g, at', none⟩ (.int .i64 (be : Int))).drew) ?_ (by rw [size_setBlock]; exact Nat.le_refl _) (heap_setBlock_ne hne)
    exact Own.put (((HO.out.alloc _).alloc _).drewN _) (by rw [HL.out]; exact hx)
  · exact (((((Two.refl g bm w).alloc _).alloc _).drewN _).setCell (p := ⟨g, at', none⟩) (.inl rfl) _).drew.setBlock (.inr rfl) _

set_option maxRecDepth 100000 in
set_option maxHeartbeats 2000000 in
theorem into_no (bm g la ca : Nat) (up : List Nat) (at' was be : Nat) (w : World) (hm : w.heap[bm]? = some (oneMap (.agg #[.int .i64 (at' : Int), .int .i64 (was : Int), .int .i64 (be : Int)]) 0)) (ho : Own w g up) (hl : up.length = la) (hx : at' < la) (hw : was < la) (hb : be < la) (he : el up at' ≠ was) (h6 : la ≤ 1000000) (hne : g ≠ bm) :
    Calls Tryd.prog 92 #[.map (some bm), .slice (some ⟨g, 0, none⟩) la ca] w fun e w' => e = .returned (.tuple #[]) ∧ Own w' g up ∧ w'.heap[bm]? = some (oneMap (.agg #[.int .i64 (at' : Int), .int .i64 (was : Int), .int .i64 (be : Int)]) 0) ∧ Two g bm w w' := by
  obtain ⟨kl, hkey⟩ := ch_key (a := (at' : Int)) (b := (was : Int)) (c := (be : Int)) (by unfold fits; omega) (by unfold fits; omega) (by unfold fits; omega)
  have hrg : (Instr.range 171 (.map (some bm))).run Tryd.prog w = .ok (.pointer (some ⟨w.heap.size, 0, none⟩)) (w.alloc (.mapIter (some bm) 1 #[] 1)) := run_range_map w _ _ _ bm _ 1 Tryd.underlying171 hm
  have hbm : bm < w.heap.size := (Array.getElem?_eq_some_iff.1 hm).1
  have hm1 : (w.alloc (.mapIter (some bm) 1 #[] 1)).heap[bm]? = some (oneMap (.agg #[.int .i64 (at' : Int), .int .i64 (was : Int), .int .i64 (be : Int)]) 0) := (Below.heap_alloc w _ bm hbm).trans hm
  have hi1 : (w.alloc (.mapIter (some bm) 1 #[] 1)).heap[w.heap.size]? = some (.mapIter (some bm) 1 #[] 1) := heap_alloc_new _ _
  have hnx : ∀ ty, (Instr.next (.pointer (some ⟨w.heap.size, 0, none⟩)) false ty).run Tryd.prog (w.alloc (.mapIter (some bm) 1 #[] 1)) = .ok (.tuple #[.bool true, .agg #[.int .i64 (at' : Int), .int .i64 (was : Int), .int .i64 (be : Int)], .int .i64 0]) (w.alloc (.mapIter (some bm) 1 #[0] 1)) := fun ty => by
    rw [run_next_one ty hi1 hm1]; congr 1; exact setBlock_last _ _ _
  have hm2 : (w.alloc (.mapIter (some bm) 1 #[0] 1)).heap[bm]? = some (oneMap (.agg #[.int .i64 (at' : Int), .int .i64 (was : Int), .int .i64 (be : Int)]) 0) := (Below.heap_alloc w _ bm hbm).trans hm
  have hi2 : (w.alloc (.mapIter (some bm) 1 #[0] 1)).heap[w.heap.size]? = some (.mapIter (some bm) 1 #[0] 1) := heap_alloc_new _ _
  have hen := run_entry_one hi2 hm2
  obtain ⟨ca1, fa1⟩ := ho.2 at' (by omega)
  have hg := ho.1
  have hx0 : (0 : Int) ≤ at' := by omega
  have hx1 : (at' : Int) < la := by omega
  have hs : ((el up at' : Int) == (was : Int)) = false := by simp; omega
  generalize el up at' = q at *
  have HO := Lib.hid ho
  have HM := Lib.hid hm2
  have HI := Lib.hid hi2
  have HK := Lib.hid hkey
  have HL := Lib.hid hl
  clear hm hm1 hi1 hm2 hi2 ho he hkey hl
  go_enter Tryd.func92, Tryd.ntmps92
  go_wp2_with fail
  refine wp_loop_rounds 2 ?_
  rw [rounds_succ]
  go_wp2_with fail
  go_quiet ((go_at_call 87; refine Calls.quiet_of_same (there_yes_q _ _ _ hx0 hx1)))
  have hmE : ((w.alloc (.mapIter (some bm) 1 #[0] 1)).alloc (.cells #[.int .i64 (at' : Int), .int .i64 (was : Int), .int .i64 (be : Int)] 169)).heap[bm]? = some (oneMap (.agg #[.int .i64 (at' : Int), .int .i64 (was : Int), .int .i64 (be : Int)]) 0) := (Below.heap_alloc _ _ bm (by simp; omega)).trans HM.out
  have HE := Lib.hid hmE
  clear hmE
  have E4 : ∀ ty, (Instr.next (.pointer (some ⟨w.heap.size, 0, none⟩)) false ty).run Tryd.prog (((w.alloc (.mapIter (some bm) 1 #[0] 1)).alloc (.cells #[.int .i64 (at' : Int), .int .i64 (was : Int), .int .i64 (be : Int)] 169)).drewN nq) = .ok (.tuple #[.bool false]) _ := fun ty =>
    run_next_none (n := 0) (key := (.agg #[.int .i64 (at' : Int), .int .i64 (was : Int), .int .i64 (be : Int)])) ty ((Below.heap_alloc _ _ w.heap.size (by simp)).trans HI.out) HE.out
  go_wp2_with fail
  rw [rounds_succ]
  go_wp2_with fail
  go_end0
  exact ⟨rfl, ((HO.out.alloc _).alloc _).drewN _, HE.out, (((Two.refl _ _ _).alloc _).alloc _).drewN _⟩

end Go.Proofs.YthhcchdjeeigpaaDoor
