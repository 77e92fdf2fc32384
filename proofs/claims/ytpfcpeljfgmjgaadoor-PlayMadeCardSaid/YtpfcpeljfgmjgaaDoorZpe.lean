/- The map of changes, of one key, as the heap holds it: what each operation on it does. Contract of into: a cell is changed, if it is what it was; then the change is counted. A block that is new. Words for the ways through Step. -/
import Derived.Test.YtpfcpeljfgmjgaaDoorZpc
import Derived.DeepKeys4
import Derived.Maps.RangeRun
import Derived.WideKeyEntry
import Derived.KernelRfl
import Derived.Test.YtpfcpeljfgmjgaaDoorZpa
import Derived.Laws.Tables
namespace Go.Proofs.YtpfcpeljfgmjgaaDoor
open Go.RowKit
open Go.WideMaps (KeyLaw)
open Go.ChangeMaps (setBlock)
set_option linter.unusedVariables false
set_option linter.unusedSimpArgs false

theorem Tryd.chLaid : laidOutB Tryd.prog = true := by kernel_rfl
theorem Tryd.chRow : (193 : TypeId) < Tryd.prog.types.size := of_decide_eq_true (by kernel_rfl)
theorem Tryd.chWide : (match Tryd.prog.underlying 193 with | some (.array _ _) | some (.struct _) => true | _ => false) = true := by kernel_rfl
set_option maxRecDepth 100000 in
theorem Tryd.chLaw : KeyLaw Tryd.prog 193 := deep_law_laid Tryd.chLaid (m := 2) (by omega) Tryd.chRow (by kernel_rfl) Tryd.chWide
theorem Tryd.chCells : Tryd.prog.cellsOf 193 = 3 := by kernel_rfl
theorem Tryd.chType : Tryd.prog.keyType 193 = true := by kernel_rfl
theorem Tryd.intCells : Tryd.prog.cellsOf 3 = 1 := by kernel_rfl
theorem Tryd.typesPos : ∃ m, Tryd.prog.types.size = m + 1 := ⟨Tryd.prog.types.size - 1, by have : 0 < Tryd.prog.types.size := of_decide_eq_true (by kernel_rfl); omega⟩
theorem Tryd.zeroInt (w : World) : (zeroValue 3).run Tryd.prog w = .ok (.int .i64 0) w := by kernel_rfl

def fits (x : Int) : Prop := -9223372036854775808 ≤ x ∧ x ≤ 9223372036854775807
theorem fits_wf {x : Int} (h : fits x) : (Lit.int .i64 x).wf = true := WalkArith.wf_i64 (by unfold fits at h; omega)

theorem ch_key {a b c : Int} (ha : fits a) (hb : fits b) (hc : fits c) : ∃ l, keyOf Tryd.prog 193 (.agg #[.int .i64 a, .int .i64 b, .int .i64 c]) = some l := by
  obtain ⟨m, hm⟩ := Tryd.typesPos
  unfold keyOf
  simp only [Tryd.underlying193, Tryd.chType]
  rw [hm]
  simp [Program.keyLits, Value.formed, Tryd.underlying193, Tryd.chCells, Tryd.intCells, Tryd.underlying3, Value.cells, fits_wf ha, fits_wf hb, fits_wf hc]

/-- The map of changes: one key, so often made. -/
def oneMap (key : Value) (n : Int) : Obj := .map #[{ key := key, val := .int .i64 n, born := 0 }] 1

theorem setBlock_same {w : World} {r : Nat} {o : Obj} (h : w.heap[r]? = some o) : setBlock w r o = w := by
  unfold setBlock
  have : w.heap.setIfInBounds r o = w.heap := by
    apply Array.ext'
    simp only [Array.toList_setIfInBounds]
    apply List.ext_getElem?
    intro j
    rw [List.getElem?_set]
    split
    · next e =>
      subst e
      have h2 : w.heap.toList[r]? = some o := by simpa using h
      have h3 : r < w.heap.toList.length := (List.getElem?_eq_some_iff.1 h2).1
      rw [if_pos h3, h2]
    · rfl
  rw [this]

section
variable {w : World} {r : Nat} {key : Value} {kl : Lit} {n : Int}
theorem run_fill (hb : w.heap[r]? = some (.map #[] 0)) (hkey : keyOf Tryd.prog 193 key = some kl) :
    (Instr.mapUpdate 195 (.map (some r)) key (.int .i64 n)).run Tryd.prog w = .ok () (setBlock w r (oneMap key n)) := by
  rcases Tryd.chLaw.find w hkey [] (by simp) with ⟨h1, _⟩ | ⟨j, e, _, h2, _⟩
  · simp [Instr.mapUpdate, run_underlying Tryd.underlying195, MapKept.run_getObj_map hb, Tryd.chLaw.check w false hkey, h1, MapKept.run_setObj_map _ hb, Result.andThen, setBlock, oneMap]
  · simp at h2
theorem find_one (w : World) (hkey : keyOf Tryd.prog 193 key = some kl) :
    (Instr.findKey 193 key [{ key := key, val := .int .i64 n, born := 0 }]).run Tryd.prog w = .ok (some (0, .int .i64 n)) w := by
  rcases Tryd.chLaw.find w hkey [{ key := key, val := .int .i64 n, born := 0 }] (by simp; exact ⟨_, hkey⟩) with ⟨_, h2⟩ | ⟨j, e, h1, h2, _⟩
  · exact absurd rfl (h2 _ (List.mem_singleton.2 rfl))
  · match j, h2 with
    | 0, h2 => simp at h2; rw [h1, ← h2]
theorem run_look (hb : w.heap[r]? = some (oneMap key n)) (hkey : keyOf Tryd.prog 193 key = some kl) :
    (Instr.lookup 195 (.map (some r)) key false).run Tryd.prog w = .ok (.int .i64 n) w := by
  have h1 := find_one (n := n) w hkey
  simp [Instr.lookup, run_underlying Tryd.underlying195, MapKept.run_getObj_map hb, Tryd.chLaw.check w _ hkey, h1, Result.andThen]
theorem run_entryOf (hb : w.heap[r]? = some (oneMap key n)) (hkey : keyOf Tryd.prog 193 key = some kl) :
    (Instr.mapEntry 195 (.map (some r)) key).run Tryd.prog w = .ok (.tuple #[.int .i64 n, .int .i64 0]) w := by
  have h1 := find_one (n := n) w hkey
  have h2 := setBlock_same hb
  unfold setBlock oneMap at h2
  simp [Instr.mapEntry, run_underlying Tryd.underlying195, MapKept.run_getObj_map hb, Tryd.chLaw.check w _ hkey, h1, Tryd.chLaw.stays w hkey, MapKept.run_setObj_map _ hb, Result.andThen, goInt, h2]
theorem run_entryPut (hb : w.heap[r]? = some (oneMap key n)) (m : Int) :
    (Instr.entryStore 195 (.map (some r)) (.int .i64 0) (.int .i64 m)).run Tryd.prog w = .ok () (setBlock w r (oneMap key m)) := by
  have h3 : Array.findIdx? (fun e : MapEntry => ((e.born : Nat) : Int) == 0) #[{ key := key, val := .int .i64 n, born := 0 }] = some 0 := by simp
  simp [Instr.entryStore, MapKept.run_getObj_map hb, asInt, asIntOf, h3, MapKept.run_setObj_map _ hb, Result.andThen, setBlock, oneMap]

theorem run_next_one {bm : Nat} (ty : TypeId) (hr : w.heap[r]? = some (.mapIter (some bm) 1 #[] 1)) (hb : w.heap[bm]? = some (oneMap key n)) :
    (Instr.next (.pointer (some ⟨r, 0, none⟩)) false ty).run Tryd.prog w = .ok (.tuple #[.bool true, key, .int .i64 n]) (setBlock w r (.mapIter (some bm) 1 #[0] 1)) := by
  simp [Instr.next, getObj, Sem.run, hr, hb, oneMap, Result.andThen, choose, Question.forced, setObj, setBlock]
theorem run_next_none {bm : Nat} (ty : TypeId) (hr : w.heap[r]? = some (.mapIter (some bm) 1 #[0] 1)) (hb : w.heap[bm]? = some (oneMap key n)) :
    (Instr.next (.pointer (some ⟨r, 0, none⟩)) false ty).run Tryd.prog w = .ok (.tuple #[.bool false]) w := by
  simp [Instr.next, getObj, Sem.run, hr, hb, oneMap, Result.andThen, choose, Question.forced]
theorem run_entry_one {bm : Nat} (hr : w.heap[r]? = some (.mapIter (some bm) 1 #[0] 1)) (hb : w.heap[bm]? = some (oneMap key n)) :
    (Instr.entry (.pointer (some ⟨r, 0, none⟩))).run Tryd.prog w = .ok (.tuple #[key, .int .i64 n]) w := by
  simp [Instr.entry, getObj, Sem.run, hr, hb, oneMap, Result.andThen]
end

end Go.Proofs.YtpfcpeljfgmjgaaDoor

namespace Go.Proofs.YtpfcpeljfgmjgaaDoor
open Go.RowKit
open Go.ChangeMaps (setBlock)
set_option linter.unusedVariables false
set_option linter.unusedSimpArgs false

theorem setBlock_last (w : World) (o o' : Obj) : setBlock (w.alloc o) w.heap.size o' = w.alloc o' := by
  unfold setBlock World.alloc
  have : (w.heap.push o).setIfInBounds w.heap.size o' = w.heap.push o' := by
    apply Array.toList_inj.1
    simp
  simp only [this]

section
variable {b1 b2 : Nat} {w w' w'' : World}
end
theorem Own.agreeC {w w' : World} {g : Nat} {p : List Nat} (h : Own w g p) (hs : w.heap.size ≤ w'.heap.size) (hb : w'.heap[g]? = w.heap[g]?) : Own w' g p := h.agree hb hs

set_option maxRecDepth 100000 in
set_option maxHeartbeats 2000000 in
theorem into_yes (bm g la ca : Nat) (up : List Nat) (at' was be : Nat) (w : World) (hm : w.heap[bm]? = some (oneMap (.agg #[.int .i64 (at' : Int), .int .i64 (was : Int), .int .i64 (be : Int)]) 0)) (ho : Own w g up) (hl : up.length = la) (hx : at' < la) (hw : was < la) (hb : be < la) (he : el up at' = was) (h6 : la ≤ 1000000) (hne : g ≠ bm) :
    Calls Tryd.prog 121 #[.map (some bm), .slice (some ⟨g, 0, none⟩) la ca] w fun e w' => e = .returned (.tuple #[]) ∧ Own w' g (up.set at' be) ∧ w'.heap[bm]? = some (oneMap (.agg #[.int .i64 (at' : Int), .int .i64 (was : Int), .int .i64 (be : Int)]) 1) ∧ Two g bm w w' := by
  obtain ⟨kl, hkey⟩ := ch_key (a := (at' : Int)) (b := (was : Int)) (c := (be : Int)) (by unfold fits; omega) (by unfold fits; omega) (by unfold fits; omega)
  have hrg : (Instr.range 195 (.map (some bm))).run Tryd.prog w = .ok (.pointer (some ⟨w.heap.size, 0, none⟩)) (w.alloc (.mapIter (some bm) 1 #[] 1)) := run_range_map w _ _ _ bm _ 1 Tryd.underlying195 hm
  have hbm : bm < w.heap.size := (Array.getElem?_eq_some_iff.1 hm).1
  have hm1 : (w.alloc (.mapIter (some bm) 1 #[] 1)).heap[bm]? = some (oneMap (.agg #[.int .i64 (at' : Int), .int .i64 (was : Int), .int .i64 (be : Int)]) 0) := (Below.heap_alloc w _ bm hbm).trans hm
  have hi1 : (w.alloc (.mapIter (some bm) 1 #[] 1)).heap[w.heap.size]? = some (.mapIter (some bm) 1 #[] 1) := heap_alloc_new _ _
  have hnx : ∀ ty, (Instr.next (.pointer (some ⟨w.heap.size, 0, none⟩)) false ty).run Tryd.prog (w.alloc (.mapIter (some bm) 1 #[] 1)) = .ok (.tuple #[.bool true, .agg #[.int .i64 (at' : Int), .int .i64 (was : Int), .int .i64 (be : Int)], .int .i64 0]) (w.alloc (.mapIter (some bm) 1 #[0] 1)) := fun ty => by
    rw [run_next_one ty hi1 hm1]; congr 1; exact setBlock_last _ _ _
  have hm2 : (w.alloc (.mapIter (some bm) 1 #[0] 1)).heap[bm]? = some (oneMap (.agg #[.int .i64 (at' : Int), .int .i64 (was : Int), .int .i64 (be : Int)]) 0) := (Below.heap_alloc w _ bm hbm).trans hm
  have hi2 : (w.alloc (.mapIter (some bm) 1 #[0] 1)).heap[w.heap.size]? = some (.mapIter (some bm) 1 #[0] 1) := heap_alloc_new _ _
  have hen := run_entry_one hi2 hm2
  obtain ⟨ca1, fa1⟩ := ho.2 at' (by omega)
  rw [he] at ca1
  have hg := ho.1
  have hx0 : (0 : Int) ≤ at' := by omega
  have hx1 : (at' : Int) < la := by omega
  have hs : ((was : Int) == (was : Int)) = true := by simp
  have HO := Lib.hid ho
  have HM := Lib.hid hm2
  have HI := Lib.hid hi2
  have HK := Lib.hid hkey
  have HL := Lib.hid hl
  clear hm hm1 hi1 hm2 hi2 ho he hkey hl
  go_enter Tryd.func121, Tryd.ntmps121
  go_wp2_with fail
  refine wp_loop_rounds 2 ?_
  rw [rounds_succ]
  go_wp2_with fail
  go_quiet ((go_at_call 116; refine Calls.quiet_of_same (there_yes_q _ _ _ hx0 hx1)))
  go_wp2_with fail
  have HM3 : Hid (((((w.alloc (.mapIter (some bm) 1 #[0] 1)).alloc (.cells #[.int .i64 (at' : Int), .int .i64 (was : Int), .int .i64 (be : Int)] 193)).drewN nq).setCell ⟨g, at', none⟩ (.int .i64 (be : Int))).drew.heap[bm]? = some (oneMap (.agg #[.int .i64 (at' : Int), .int .i64 (was : Int), .int .i64 (be : Int)]) 0)) :=
    (Below.heap_setCell _ _ _ bm (Ne.symm hne)).trans ((Below.heap_alloc _ _ bm (by simp; omega)).trans HM.out)
  have E1 := run_look HM3.out HK.out
  have E2 := run_entryOf HM3.out HK.out
  have E3 := run_entryPut HM3.out 1
  go_region
  have E4 : ∀ ty, (Instr.next (.pointer (some ⟨w.heap.size, 0, none⟩)) false ty).run Tryd.prog (setBlock (((((w.alloc (.mapIter (some bm) 1 #[0] 1)).alloc (.cells #[.int .i64 (at' : Int), .int .i64 (was : Int), .int .i64 (be : Int)] 193)).drewN nq).setCell ⟨g, at', none⟩ (.int .i64 (be : Int))).drew) bm (oneMap (.agg #[.int .i64 (at' : Int), .int .i64 (was : Int), .int .i64 (be : Int)]) 1)) = .ok (.tuple #[.bool false]) _ := fun ty =>
    run_next_none (n := 1) (key := (.agg #[.int .i64 (at' : Int), .int .i64 (was : Int), .int .i64 (be : Int)])) ty ((heap_setBlock_ne (by omega)).trans ((Below.heap_setCell _ _ _ w.heap.size (by show w.heap.size ≠ g; omega)).trans ((Below.heap_alloc _ _ w.heap.size (by simp)).trans HI.out))) (heap_setBlock_eq (Array.getElem?_eq_some_iff.1 HM3.out).1)
  go_wp2_with fail
  rw [rounds_succ]
  go_wp2_with fail
  go_end0
  have h1 := (Array.getElem?_eq_some_iff.1 HM3.out).1
  refine ⟨rfl, ?_, heap_setBlock_eq h1, ?_⟩
  · refine Own.agreeC (w := ((((w.alloc (.mapIter (some bm) 1 #[0] 1)).alloc (.cells #[.int .i64 (at' : Int), .int .i64 (was : Int), .int .i64 (be : Int)] 193)).drewN nq).setCell ⟨g, at', none⟩ (.int .i64 (be : Int))).drew) ?_ (by rw [size_setBlock]; exact Nat.le_refl _) (heap_setBlock_ne hne)
    exact Own.put (((HO.out.alloc _).alloc _).drewN _) (by rw [HL.out]; exact hx)
  · exact (((((Two.refl g bm w).alloc _).alloc _).drewN _).setCell (p := ⟨g, at', none⟩) (.inl rfl) _).drew.setBlock (.inr rfl) _

set_option maxRecDepth 100000 in
set_option maxHeartbeats 2000000 in
theorem into_no (bm g la ca : Nat) (up : List Nat) (at' was be : Nat) (w : World) (hm : w.heap[bm]? = some (oneMap (.agg #[.int .i64 (at' : Int), .int .i64 (was : Int), .int .i64 (be : Int)]) 0)) (ho : Own w g up) (hl : up.length = la) (hx : at' < la) (hw : was < la) (hb : be < la) (he : el up at' ≠ was) (h6 : la ≤ 1000000) (hne : g ≠ bm) :
    Calls Tryd.prog 121 #[.map (some bm), .slice (some ⟨g, 0, none⟩) la ca] w fun e w' => e = .returned (.tuple #[]) ∧ Own w' g up ∧ w'.heap[bm]? = some (oneMap (.agg #[.int .i64 (at' : Int), .int .i64 (was : Int), .int .i64 (be : Int)]) 0) ∧ Two g bm w w' := by
  obtain ⟨kl, hkey⟩ := ch_key (a := (at' : Int)) (b := (was : Int)) (c := (be : Int)) (by unfold fits; omega) (by unfold fits; omega) (by unfold fits; omega)
  have hrg : (Instr.range 195 (.map (some bm))).run Tryd.prog w = .ok (.pointer (some ⟨w.heap.size, 0, none⟩)) (w.alloc (.mapIter (some bm) 1 #[] 1)) := run_range_map w _ _ _ bm _ 1 Tryd.underlying195 hm
  have hbm : bm < w.heap.size := (Array.getElem?_eq_some_iff.1 hm).1
  have hm1 : (w.alloc (.mapIter (some bm) 1 #[] 1)).heap[bm]? = some (oneMap (.agg #[.int .i64 (at' : Int), .int .i64 (was : Int), .int .i64 (be : Int)]) 0) := (Below.heap_alloc w _ bm hbm).trans hm
  have hi1 : (w.alloc (.mapIter (some bm) 1 #[] 1)).heap[w.heap.size]? = some (.mapIter (some bm) 1 #[] 1) := heap_alloc_new _ _
  have hnx : ∀ ty, (Instr.next (.pointer (some ⟨w.heap.size, 0, none⟩)) false ty).run Tryd.prog (w.alloc (.mapIter (some bm) 1 #[] 1)) = .ok (.tuple #[.bool true, .agg #[.int .i64 (at' : Int), .int .i64 (was : Int), .int .i64 (be : Int)], .int .i64 0]) (w.alloc (.mapIter (some bm) 1 #[0] 1)) := fun ty => by
    rw [run_next_one ty hi1 hm1]; congr 1; exact setBlock_last _ _ _
  have hm2 : (w.alloc (.mapIter (some bm) 1 #[0] 1)).heap[bm]? = some (oneMap (.agg #[.int .i64 (at' : Int), .int .i64 (was : Int), .int .i64 (be : Int)]) 0) := (Below.heap_alloc w _ bm hbm).trans hm
  have hi2 : (w.alloc (.mapIter (some bm) 1 #[0] 1)).heap[w.heap.size]? = some (.mapIter (some bm) 1 #[0] 1) := heap_alloc_new _ _
  have hen := run_entry_one hi2 hm2
  obtain ⟨ca1, fa1⟩ := ho.2 at' (by omega)
  have hg := ho.1
  have hx0 : (0 : Int) ≤ at' := by omega
  have hx1 : (at' : Int) < la := by omega
  have hs : ((el up at' : Int) == (was : Int)) = false := by simp; omega
  generalize el up at' = q at *
  have HO := Lib.hid ho
  have HM := Lib.hid hm2
  have HI := Lib.hid hi2
  have HK := Lib.hid hkey
  have HL := Lib.hid hl
  clear hm hm1 hi1 hm2 hi2 ho he hkey hl
  go_enter Tryd.func121, Tryd.ntmps121
  go_wp2_with fail
  refine wp_loop_rounds 2 ?_
  rw [rounds_succ]
  go_wp2_with fail
  go_quiet ((go_at_call 116; refine Calls.quiet_of_same (there_yes_q _ _ _ hx0 hx1)))
  have hmE : ((w.alloc (.mapIter (some bm) 1 #[0] 1)).alloc (.cells #[.int .i64 (at' : Int), .int .i64 (was : Int), .int .i64 (be : Int)] 193)).heap[bm]? = some (oneMap (.agg #[.int .i64 (at' : Int), .int .i64 (was : Int), .int .i64 (be : Int)]) 0) := (Below.heap_alloc _ _ bm (by simp; omega)).trans HM.out
  have HE := Lib.hid hmE
  clear hmE
  have E4 : ∀ ty, (Instr.next (.pointer (some ⟨w.heap.size, 0, none⟩)) false ty).run Tryd.prog (((w.alloc (.mapIter (some bm) 1 #[0] 1)).alloc (.cells #[.int .i64 (at' : Int), .int .i64 (was : Int), .int .i64 (be : Int)] 193)).drewN nq) = .ok (.tuple #[.bool false]) _ := fun ty =>
    run_next_none (n := 0) (key := (.agg #[.int .i64 (at' : Int), .int .i64 (was : Int), .int .i64 (be : Int)])) ty ((Below.heap_alloc _ _ w.heap.size (by simp)).trans HI.out) HE.out
  go_wp2_with fail
  rw [rounds_succ]
  go_wp2_with fail
  go_end0
  exact ⟨rfl, ((HO.out.alloc _).alloc _).drewN _, HE.out, (((Two.refl _ _ _).alloc _).alloc _).drewN _⟩

end Go.Proofs.YtpfcpeljfgmjgaaDoor

namespace Go.Proofs.YtpfcpeljfgmjgaaDoor
open Go.RowKit
set_option linter.unusedVariables false
set_option linter.unusedSimpArgs false

/-- Behind the change of a cell. -/
def AfterInto (g tb : Nat) (up : List Nat) (w : World) (k x y st u v ww r res : Nat) (s8 : Value) (wx : World) : Prop :=
  s8 = .bool false ∧ Own wx g up ∧ Box wx tb 81 [.int .i64 (k : Int), .int .i64 (x : Int), .int .i64 (y : Int), .int .i64 (st : Int), .int .i64 (u : Int), .int .i64 (v : Int), .int .i64 (ww : Int), .int .i64 (r : Int), .bool false, .int .i64 (res : Int)] ∧ Two g tb w wx
theorem Two.fresh {w w' : World} {g b : Nat} {o : Obj} (h : Two g w.heap.size (w.alloc o).drew w') : Two g b w w' :=
  ⟨h.os, h.tape, h.output, Nat.le_trans (by simp) h.size, fun k hk h1 h2 => (h.block k (by show k < (w.alloc o).heap.size; simp; omega) h1 (by omega)).trans (Below.heap_alloc w o k hk)⟩

end Go.Proofs.YtpfcpeljfgmjgaaDoor

namespace Go.Proofs.YtpfcpeljfgmjgaaDoor
open Go.RowKit
set_option linter.unusedVariables false
set_option linter.unusedSimpArgs false

/-- Behind the task's store, ahead of the way out. -/
def AtEnd (w : World) (g : Nat) (up : List Nat) (cs : List Value) (s6 : Value) (wx : World) : Prop :=
  Own wx g up ∧ Box wx w.heap.size 81 cs ∧ Box wx (w.heap.size + 1) 81 [.int .i64 0, .int .i64 0, .int .i64 0, .int .i64 0, .int .i64 0, .int .i64 0, .int .i64 0, .int .i64 0, .bool false, .int .i64 0] ∧ Below w.heap.size w wx

theorem Tryd.taskSize : (Tryd.prog.info? 81).map (·.size) = some 10 := by kernel_rfl
theorem Two.own {b1 b2 g : Nat} {w w' : World} {p : List Nat} (h : Two b1 b2 w w') (ho : Own w g p) (h1 : g ≠ b1) (h2 : g ≠ b2) : Own w' g p := ho.agree (h.block g ho.1 h1 h2) h.size
theorem Own.drew1 {w : World} {g : Nat} {p : List Nat} (h : Own w g p) : Own w.drew g p := h

end Go.Proofs.YtpfcpeljfgmjgaaDoor
