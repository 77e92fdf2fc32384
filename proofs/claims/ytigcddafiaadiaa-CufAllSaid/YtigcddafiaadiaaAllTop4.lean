/- PROVED: the law CufAll (whether any list may be, its root, and what an operation begins with, is the document's) returns true at every input, and leaves its arguments as they were. No condition. -/
import Derived.Test.YtigcddafiaadiaaRows
import Derived.Test.YtigcddafiaadiaaOpenc
import Derived.Test.YtigcddafiaadiaaClall
import Derived.Deep.Strs
import Derived.ProofKit
import Derived.OpenShut
import Derived.ShutString
import Derived.ChangeOld
import Derived.Lib.SmallJoins
namespace Go.Proofs.Ytigcddafiaadiaa
open Go.ChangeShapes Go.WideShapes Go.ChangeAt Go.RowKit Go.Joins
open Go.ChangeMaps (open_string shut_string)
set_option linter.unusedVariables false

theorem cufAll_own : ownKnob Try.prog.godebug = none := by kernel_rfl
theorem cufAll_laidOut : laidOutB Try.prog = true := by kernel_rfl

set_option maxRecDepth 100000 in
theorem cufAll_lifted (os : Os) (started : os.Started) (H : Type) (enc : TypeId × Value → H) :
    ReturnsInHanded {} Try.checked os 3 .any (Rows.cufAllSpec.pre6 enc Try.prog Try.f3 Rows.cufAllRow.domain false) (Rows.cufAllSpec.post enc Try.prog Try.f3 false true false false) := by
  refine returnsInHanded_of_change (C := Try.checked) cufAll_own started (by kernel_rfl) Try.func3
    (ChangeSpec.witness6 (enc := enc) (C := Try.checked) false ⟨#[], #[.slice none 0 0, .slice none 0 0, .int .i64 0, .agg #[.int .i64 0, .int .i64 0, .int .i64 0], .int .i64 0], []⟩ 8 (by kernel_rfl) (by kernel_rfl) (by kernel_rfl) (by kernel_rfl)) ?_
  intro W base args ds gs before hval0 hW hcnd _
  have hval : ∀ (j : Nat) t v, Try.f3.params[j]? = some t → args[j]? = some v → Value.okWide Try.prog W .any base t v := hval0
  have hW' := hW
  obtain ⟨p, q, hA0, hV, rfl, hfz, hnd⟩ := hW
  have hA : DataW.TrodAll enc Try.prog W 0 (fun _ => true) true Try.f3.params.toList args.toList ds p := hA0
  rw [Try.params3] at hA hval
  obtain ⟨v0, vs0, d0, ds0, p0, q0, hargs, rfl, rfl, h0, r0⟩ := trodAll_cons hA
  obtain ⟨v1, vs1, d1, ds1, p1, q1, rfl, rfl, rfl, h1, r1⟩ := trodAll_cons r0
  obtain ⟨v2, vs2, d2, ds2, p2, q2, rfl, rfl, rfl, h2, r2⟩ := trodAll_cons r1
  obtain ⟨v3, vs3, d3, ds3, p3, q3, rfl, rfl, rfl, h3, r3⟩ := trodAll_cons r2
  obtain ⟨v4, vs4, d4, ds4, p4, q4, rfl, rfl, rfl, h4, r4⟩ := trodAll_cons r3
  obtain ⟨rfl, rfl, rfl⟩ := trodAll_nil r4
  obtain rfl : args = #[v0, v1, v2, v3, v4] := by cases args; simp_all
  obtain ⟨rfl, rfl⟩ := trodVars_none hV
  have k0 := h0
  have lt0 : ∀ x ∈ p0, x.block < W.heap.size := by obtain ⟨m, hm⟩ := k0; exact DataW.trod_lt m _ _ _ hm
  have k1 := h1
  have lt1 : ∀ x ∈ p1, x.block < W.heap.size := by obtain ⟨m, hm⟩ := k1; exact DataW.trod_lt m _ _ _ hm
  have k2 := h2
  have lt2 : ∀ x ∈ p2, x.block < W.heap.size := by obtain ⟨m, hm⟩ := k2; exact DataW.trod_lt m _ _ _ hm
  have k3 := h3
  have lt3 : ∀ x ∈ p3, x.block < W.heap.size := by obtain ⟨m, hm⟩ := k3; exact DataW.trod_lt m _ _ _ hm
  have k4 := h4
  have lt4 : ∀ x ∈ p4, x.block < W.heap.size := by obtain ⟨m, hm⟩ := k4; exact DataW.trod_lt m _ _ _ hm
  obtain ⟨a_p, l_p, c_p, rfl⟩ := okWide_slice Try.underlying22 (hval 0 22 v0 rfl rfl)
  obtain ⟨x_p, row_p⟩ := (by obtain ⟨fuel, hf⟩ := h0; exact Row_of_trod Try.underlying22 Try.underlying3 (by kernel_rfl) hf rfl : ∃ xs, Row 0 W.heap.size W a_p l_p xs)
  obtain ⟨a_q, l_q, c_q, rfl⟩ := okWide_slice Try.underlying22 (hval 1 22 v1 rfl rfl)
  obtain ⟨x_q, row_q⟩ := (by obtain ⟨fuel, hf⟩ := h1; exact Row_of_trod Try.underlying22 Try.underlying3 (by kernel_rfl) hf rfl : ∃ xs, Row 0 W.heap.size W a_q l_q xs)
  obtain ⟨x, rfl, rfl, rfl, wf_x⟩ := open_int Try.underlying3 (hval 2 3 v2 rfl rfl) h2
  obtain ⟨cs_o, rfl, hsz_o⟩ := okWide_struct Try.underlying24 (hval 3 24 v3 rfl rfl)
  rw [show Try.prog.cellsOf 24 = 3 by kernel_rfl] at hsz_o
  obtain ⟨l_o⟩ := cs_o
  obtain ⟨c0, c1, c2, rfl⟩ := three_of hsz_o
  have hci : Try.prog.cellsOf 3 = 1 := by kernel_rfl
  obtain ⟨o0, o1, o2, rfl, rfl, rfl, f_o0, f_o1, f_o2⟩ : ∃ o0 o1 o2 : Int, c0 = .int .i64 o0 ∧ c1 = .int .i64 o1 ∧ c2 = .int .i64 o2 ∧ fits o0 ∧ fits o1 ∧ fits o2 := by
    obtain ⟨fuel, hf⟩ := h3
    obtain ⟨y0, y1, y2, m, _, _, t0, t1, t2⟩ := Deep.trod_struct3 Try.underlying24 hf
    obtain ⟨o0, e0, _, w0⟩ := DataW.trod_int Try.underlying3 t0
    obtain ⟨o1, e1, _, w1⟩ := DataW.trod_int Try.underlying3 t1
    obtain ⟨o2, e2, _, w2⟩ := DataW.trod_int Try.underlying3 t2
    simp [Value.cells, hci] at e0 e1 e2
    exact ⟨o0, o1, o2, e0, e1, e2, bounds_i64 w0, bounds_i64 w1, bounds_i64 w2⟩
  obtain ⟨n, rfl, rfl, rfl, wf_n⟩ := open_int Try.underlying3 (hval 4 3 v4 rfl rfl) h4
  clear hA0 hval0
  refine (all_law a_p a_q l_p c_p l_q c_q x_p x_q x o0 o1 o2 n W row_p row_q f_o0 f_o1 f_o2).mono fun e W' ⟨he, bel⟩ => ?_
  subst he
  exact ⟨_, rfl, _, _, _, [], _, [], hW', trodAll_mk1 (shut_bool Try.underlying4 _), (trodAll_cons_mk (Below.trod cufAll_laidOut (by kernel_rfl) (of_decide_eq_true (by kernel_rfl)) k0 bel lt0) (trodAll_cons_mk (Below.trod cufAll_laidOut (by kernel_rfl) (of_decide_eq_true (by kernel_rfl)) k1 bel lt1) (trodAll_cons_mk (Below.trod cufAll_laidOut (by kernel_rfl) (of_decide_eq_true (by kernel_rfl)) k2 bel lt2) (trodAll_cons_mk (Below.trod cufAll_laidOut (by kernel_rfl) (of_decide_eq_true (by kernel_rfl)) k3 bel lt3) (trodAll_cons_mk (Below.trod cufAll_laidOut (by kernel_rfl) (of_decide_eq_true (by kernel_rfl)) k4 bel lt4) trodAll_mk0))))), rfl, bel.frame _, fun h => by cases h⟩

theorem cufAll_holds : Rows.CufAllSaid :=
  OpenClaim.holds_of_wide 3 Try.f3 rfl rfl rfl rfl rfl rfl rfl ⟨rfl, rfl, rfl, rfl, rfl⟩ rfl rfl rfl rfl rfl (by kernel_rfl) Try.func3 (by kernel_rfl)
    (of_decide_eq_true (by kernel_rfl)) (by unfold Func.isWrapper; first | (rw [if_pos (by decide +kernel)]; kernel_rfl) | (rw [if_neg (by decide +kernel)]; exact ⟨rfl, rfl⟩))
    (fun os started H enc _ => cufAll_lifted os started H enc)
#print axioms cufAll_holds

end Go.Proofs.Ytigcddafiaadiaa
