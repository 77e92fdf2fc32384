/- Two tasks that are one are not told apart by '!='; what the laws say of all that they call. -/
import Derived.Test.YtigcddafiaadiaaCcells
namespace Go.Proofs.Ytigcddafiaadiaa
open Go.RowKit
set_option linter.unusedVariables false
set_option linter.unusedSimpArgs false

theorem Try.tkWide : (match Try.prog.underlying 27 with | some (.array _ _) | some (.struct _) => true | _ => false) = true := by kernel_rfl
theorem Try.tkDeep : Try.prog.keyTypeAt 3 27 = true := by kernel_rfl
theorem Try.tkCells : Try.prog.cellsOf 27 = 10 := by kernel_rfl
theorem Try.opCells : Try.prog.cellsOf 24 = 3 := by kernel_rfl
theorem Try.boolCells : Try.prog.cellsOf 4 = 1 := by kernel_rfl
theorem Try.tkType : Try.prog.keyType 27 = true := by kernel_rfl
theorem Try.tkGuard : Try.prog.eqGuardType Try.prog.depth 27 = false := by kernel_rfl
theorem Try.typesPos2 : ∃ m, Try.prog.types.size = m + 3 := ⟨Try.prog.types.size - 3, by have : 3 ≤ Try.prog.types.size := of_decide_eq_true (by kernel_rfl); omega⟩

theorem tk_key {k x y st u v ww r res : Int} (dn : Bool) (h1 : fits k) (h2 : fits x) (h3 : fits y) (h4 : fits st) (h5 : fits u) (h6 : fits v) (h7 : fits ww) (h8 : fits r) (h9 : fits res) :
    ∃ l, keyOf Try.prog 27 (.agg #[.int .i64 k, .int .i64 x, .int .i64 y, .int .i64 st, .int .i64 u, .int .i64 v, .int .i64 ww, .int .i64 r, .bool dn, .int .i64 res]) = some l := by
  obtain ⟨m, hm⟩ := Try.typesPos2
  unfold keyOf
  simp only [Try.underlying27, Try.tkType]
  rw [hm]
  simp [Program.keyLits, Value.formed, Try.underlying27, Try.underlying24, Try.tkCells, Try.opCells, Try.boolCells, Try.intCells, Try.underlying3, Try.underlying4, Value.cells, fits_wf h1, fits_wf h2, fits_wf h3, fits_wf h4, fits_wf h5, fits_wf h6, fits_wf h7, fits_wf h8, fits_wf h9]
  rw [if_pos (by intro i hi; match i, hi with | 0, _ => simp | 1, _ => simp | 2, _ => simp)]
  exact ⟨_, rfl⟩

theorem tk_guard (x y : Operand) (a b : Array Value) (w : World) : (eqGuard .neq 27 x y (.agg a) (.agg b)).run Try.prog w = .ok () w := by
  simp [eqGuard, Try.tkGuard, Result.andThen]

theorem tk_same {k x y st u v ww r res : Int} (dn : Bool) (w : World) (h1 : fits k) (h2 : fits x) (h3 : fits y) (h4 : fits st) (h5 : fits u) (h6 : fits v) (h7 : fits ww) (h8 : fits r) (h9 : fits res) :
    (binOp .neq 27 (.agg #[.int .i64 k, .int .i64 x, .int .i64 y, .int .i64 st, .int .i64 u, .int .i64 v, .int .i64 ww, .int .i64 r, .bool dn, .int .i64 res]) (.agg #[.int .i64 k, .int .i64 x, .int .i64 y, .int .i64 st, .int .i64 u, .int .i64 v, .int .i64 ww, .int .i64 r, .bool dn, .int .i64 res])).run Try.prog w = .ok (.bool false) w := by
  obtain ⟨l, hl⟩ := tk_key dn h1 h2 h3 h4 h5 h6 h7 h8 h9
  obtain ⟨b, hb, hiff⟩ := run_equal_deep (P := Try.prog) w (m := 3) (by omega) Try.tkDeep Try.tkWide hl hl
  obtain rfl := hiff.2 rfl
  simp [binOp, hb, Result.andThen]

end Go.Proofs.Ytigcddafiaadiaa
