/- The map of changes, of one key, as the heap holds it: what each operation on it does. -/
import Derived.Test.YthhcchdjeeigpaaDoorCpre
import Derived.DeepKeys4
import Derived.Maps.RangeRun
import Derived.WideKeyEntry
import Derived.KernelRfl
namespace Go.Proofs.YthhcchdjeeigpaaDoor
open Go.RowKit
open Go.WideMaps (KeyLaw)
open Go.ChangeMaps (setBlock)
set_option linter.unusedVariables false
set_option linter.unusedSimpArgs false

theorem Tryd.chLaid : laidOutB Tryd.prog = true := by kernel_rfl
theorem Tryd.chRow : (169 : TypeId) < Tryd.prog.types.size := of_decide_eq_true (by kernel_rfl)
theorem Tryd.chWide : (match Tryd.prog.underlying 169 with | some (.array _ _) | some (.struct _) => true | _ => false) = true := by kernel_rfl
set_option maxRecDepth 100000 in
theorem Tryd.chLaw : KeyLaw Tryd.prog 169 := deep_law_laid Tryd.chLaid (m := 2) (by omega) Tryd.chRow (by kernel_rfl) Tryd.chWide
theorem Tryd.chCells : Tryd.prog.cellsOf 169 = 3 := by kernel_rfl
theorem Tryd.chType : Tryd.prog.keyType 169 = true := by kernel_rfl
theorem Tryd.intCells : Tryd.prog.cellsOf 3 = 1 := by kernel_rfl
theorem Tryd.typesPos : ∃ m, Tryd.prog.types.size = m + 1 := ⟨Tryd.prog.types.size - 1, by have : 0 < Tryd.prog.types.size := of_decide_eq_true (by kernel_rfl); omega⟩
theorem Tryd.zeroInt (w : World) : (zeroValue 3).run Tryd.prog w = .ok (.int .i64 0) w := by kernel_rfl

def fits (x : Int) : Prop := -9223372036854775808 ≤ x ∧ x ≤ 9223372036854775807
theorem fits_wf {x : Int} (h : fits x) : (Lit.int .i64 x).wf = true := WalkArith.wf_i64 (by unfold fits at h; omega)

theorem ch_key {a b c : Int} (ha : fits a) (hb : fits b) (hc : fits c) : ∃ l, keyOf Tryd.prog 169 (.agg #[.int .i64 a, .int .i64 b, .int .i64 c]) = some l := by
  obtain ⟨m, hm⟩ := Tryd.typesPos
  unfold keyOf
  simp only [Tryd.underlying169, Tryd.chType]
  rw [hm]
  simp [Program.keyLits, Value.formed, Tryd.underlying169, Tryd.chCells, Tryd.intCells, Tryd.underlying3, Value.cells, fits_wf ha, fits_wf hb, fits_wf hc]

/-- The map of changes: one key, so often made. -/
def oneMap (key : Value) (n : Int) : Obj := .map #[{ key := key, val := .int .i64 n, born := 0 }] 1

theorem setBlock_same {w : World} {r : Nat} {o : Obj} (h : w.heap[r]? = some o) : setBlock w r o = w := by
  unfold setBlock
  have : w.heap.setIfInBounds r o = w.heap := by
    apply Array.ext'
    simp only [Array.toList_setIfInBounds]
    apply List.ext_getElem?
    intro j
    rw [List.getElem?_set]
    split
    · next e =>
      subst e
      have h2 : w.heap.toList[r]? = some o := by simpa using h
      have h3 : r < w.heap.toList.length := (List.getElem?_eq_some_iff.1 h2).1
      rw [if_pos h3, h2]
    · rfl
  rw [this]

section
variable {w : World} {r : Nat} {key : Value} {kl : Lit} {n : Int}
theorem run_fill (hb : w.heap[r]? = some (.map #[] 0)) (hkey : keyOf Tryd.prog 169 key = some kl) :
    (Instr.mapUpdate 171 (.map (some r)) key (.int .i64 n)).run Tryd.prog w = .ok () (setBlock w r (oneMap key n)) := by
  rcases Tryd.chLaw.find w hkey [] (by simp) with ⟨h1, _⟩ | ⟨j, e, _, h2, _⟩
  · simp [Instr.mapUpdate, run_underlying Tryd.underlying171, MapKept.run_getObj_map hb, Tryd.chLaw.check w false hkey, h1, MapKept.run_setObj_map _ hb, Result.andThen, setBlock, oneMap]
  · simp at h2
theorem find_one (w : World) (hkey : keyOf Tryd.prog 169 key = some kl) :
    (Instr.findKey 169 key [{ key := key, val := .int .i64 n, born := 0 }]).run Tryd.prog w = .ok (some (0, .int .i64 n)) w := by
  rcases Tryd.chLaw.find w hkey [{ key := key, val := .int .i64 n, born := 0 }] (by simp; exact ⟨_, hkey⟩) with ⟨_, h2⟩ | ⟨j, e, h1, h2, _⟩
  · exact absurd rfl (h2 _ (List.mem_singleton.2 rfl))
  · match j, h2 with
    | 0, h2 => simp at h2; rw [h1, ← h2]
theorem run_look (hb : w.heap[r]? = some (oneMap key n)) (hkey : keyOf Tryd.prog 169 key = some kl) :
    (Instr.lookup 171 (.map (some r)) key false).run Tryd.prog w = .ok (.int .i64 n) w := by
  have h1 := find_one (n := n) w hkey
  simp [Instr.lookup, run_underlying Tryd.underlying171, MapKept.run_getObj_map hb, Tryd.chLaw.check w _ hkey, h1, Result.andThen]
theorem run_entryOf (hb : w.heap[r]? = some (oneMap key n)) (hkey : keyOf Tryd.prog 169 key = some kl) :
    (Instr.mapEntry 171 (.map (some r)) key).run Tryd.prog w = .ok (.tuple #[.int .i64 n, .int .i64 0]) w := by
  have h1 := find_one (n := n) w hkey
  have h2 := setBlock_same hb
  unfold setBlock oneMap at h2
  simp [Instr.mapEntry, run_underlying Tryd.underlying171, MapKept.run_getObj_map hb, Tryd.chLaw.check w _ hkey, h1, Tryd.chLaw.stays w hkey, MapKept.run_setObj_map _ hb, Result.andThen, goInt, h2]
theorem run_entryPut (hb : w.heap[r]? = some (oneMap key n)) (m : Int) :
    (Instr.entryStore 171 (.map (some r)) (.int .i64 0) (.int .i64 m)).run Tryd.prog w = .ok () (setBlock w r (oneMap key m)) := by
  have h3 : Array.findIdx? (fun e : MapEntry => ((e.born : Nat) : Int) == 0) #[{ key := key, val := .int .i64 n, born := 0 }] = some 0 := by simp
  simp [Instr.entryStore, MapKept.run_getObj_map hb, asInt, asIntOf, h3, MapKept.run_setObj_map _ hb, Result.andThen, setBlock, oneMap]

theorem run_next_one {bm : Nat} (ty : TypeId) (hr : w.heap[r]? = some (.mapIter (some bm) 1 #[] 1)) (hb : w.heap[bm]? = some (oneMap key n)) :
    (Instr.next (.pointer (some ⟨r, 0, none⟩)) false ty).run Tryd.prog w = .ok (.tuple #[.bool true, key, .int .i64 n]) (setBlock w r (.mapIter (some bm) 1 #[0] 1)) := by
  simp [Instr.next, getObj, Sem.run, hr, hb, oneMap, Result.andThen, choose, Question.forced, setObj, setBlock]
theorem run_next_none {bm : Nat} (ty : TypeId) (hr : w.heap[r]? = some (.mapIter (some bm) 1 #[0] 1)) (hb : w.heap[bm]? = some (oneMap key n)) :
    (Instr.next (.pointer (some ⟨r, 0, none⟩)) false ty).run Tryd.prog w = .ok (.tuple #[.bool false]) w := by
  simp [Instr.next, getObj, Sem.run, hr, hb, oneMap, Result.andThen, choose, Question.forced]
theorem run_entry_one {bm : Nat} (hr : w.heap[r]? = some (.mapIter (some bm) 1 #[0] 1)) (hb : w.heap[bm]? = some (oneMap key n)) :
    (Instr.entry (.pointer (some ⟨r, 0, none⟩))).run Tryd.prog w = .ok (.tuple #[key, .int .i64 n]) w := by
  simp [Instr.entry, getObj, Sem.run, hr, hb, oneMap, Result.andThen]
end

end Go.Proofs.YthhcchdjeeigpaaDoor
