/- PROVED: the law CufAlone (an operation alone ends, as it should) returns true at every input, and leaves its arguments as they were. No condition. -/
import Derived.Test.YtigcddafiaadiaaRows
import Derived.Test.YtigcddafiaadiaaOpenc
import Derived.Test.YtigcddafiaadiaaClalone
import Derived.ProofKit
import Derived.OpenShut
import Derived.ShutString
import Derived.ChangeOld
import Derived.Lib.SmallJoins
namespace Go.Proofs.Ytigcddafiaadiaa
open Go.ChangeShapes Go.WideShapes Go.ChangeAt Go.RowKit Go.Joins
open Go.ChangeMaps (open_string shut_string)
set_option linter.unusedVariables false

theorem cufAlone_own : ownKnob Try.prog.godebug = none := by kernel_rfl
theorem cufAlone_laidOut : laidOutB Try.prog = true := by kernel_rfl

set_option maxRecDepth 100000 in
theorem cufAlone_lifted (os : Os) (started : os.Started) (H : Type) (enc : TypeId × Value → H) :
    ReturnsInHanded {} Try.checked os 5 .any (Rows.cufAloneSpec.pre6 enc Try.prog Try.f5 Rows.cufAloneRow.domain false) (Rows.cufAloneSpec.post enc Try.prog Try.f5 false true false false) := by
  refine returnsInHanded_of_change (C := Try.checked) cufAlone_own started (by kernel_rfl) Try.func5
    (ChangeSpec.witness6 (enc := enc) (C := Try.checked) false ⟨#[], #[.slice none 0 0, .slice none 0 0, .int .u8 0, .int .u8 0, .int .u8 0], []⟩ 8 (by kernel_rfl) (by kernel_rfl) (by kernel_rfl) (by kernel_rfl)) ?_
  intro W base args ds gs before hval0 hW hcnd _
  have hval : ∀ (j : Nat) t v, Try.f5.params[j]? = some t → args[j]? = some v → Value.okWide Try.prog W .any base t v := hval0
  have hW' := hW
  obtain ⟨p, q, hA0, hV, rfl, hfz, hnd⟩ := hW
  have hA : DataW.TrodAll enc Try.prog W 0 (fun _ => true) true Try.f5.params.toList args.toList ds p := hA0
  rw [Try.params5] at hA hval
  obtain ⟨v0, vs0, d0, ds0, p0, q0, hargs, rfl, rfl, h0, r0⟩ := trodAll_cons hA
  obtain ⟨v1, vs1, d1, ds1, p1, q1, rfl, rfl, rfl, h1, r1⟩ := trodAll_cons r0
  obtain ⟨v2, vs2, d2, ds2, p2, q2, rfl, rfl, rfl, h2, r2⟩ := trodAll_cons r1
  obtain ⟨v3, vs3, d3, ds3, p3, q3, rfl, rfl, rfl, h3, r3⟩ := trodAll_cons r2
  obtain ⟨v4, vs4, d4, ds4, p4, q4, rfl, rfl, rfl, h4, r4⟩ := trodAll_cons r3
  obtain ⟨rfl, rfl, rfl⟩ := trodAll_nil r4
  obtain rfl : args = #[v0, v1, v2, v3, v4] := by cases args; simp_all
  obtain ⟨rfl, rfl⟩ := trodVars_none hV
  have k0 := h0
  have lt0 : ∀ x ∈ p0, x.block < W.heap.size := by obtain ⟨m, hm⟩ := k0; exact DataW.trod_lt m _ _ _ hm
  have k1 := h1
  have lt1 : ∀ x ∈ p1, x.block < W.heap.size := by obtain ⟨m, hm⟩ := k1; exact DataW.trod_lt m _ _ _ hm
  have k2 := h2
  have lt2 : ∀ x ∈ p2, x.block < W.heap.size := by obtain ⟨m, hm⟩ := k2; exact DataW.trod_lt m _ _ _ hm
  have k3 := h3
  have lt3 : ∀ x ∈ p3, x.block < W.heap.size := by obtain ⟨m, hm⟩ := k3; exact DataW.trod_lt m _ _ _ hm
  have k4 := h4
  have lt4 : ∀ x ∈ p4, x.block < W.heap.size := by obtain ⟨m, hm⟩ := k4; exact DataW.trod_lt m _ _ _ hm
  obtain ⟨a_a, l_a, c_a, rfl⟩ := okWide_slice Try.underlying36 (hval 0 36 v0 rfl rfl)
  obtain ⟨x_a, row_a⟩ := (by obtain ⟨fuel, hf⟩ := h0; exact RowY_of_trod Try.underlying36 Try.underlying5 (by kernel_rfl) hf rfl : ∃ xs, RowY 0 W.heap.size W a_a l_a xs ∧ ∀ i, i < l_a → xs.getD i 0 ≤ 255)
  obtain ⟨a_b, l_b, c_b, rfl⟩ := okWide_slice Try.underlying36 (hval 1 36 v1 rfl rfl)
  obtain ⟨x_b, row_b⟩ := (by obtain ⟨fuel, hf⟩ := h1; exact RowY_of_trod Try.underlying36 Try.underlying5 (by kernel_rfl) hf rfl : ∃ xs, RowY 0 W.heap.size W a_b l_b xs ∧ ∀ i, i < l_b → xs.getD i 0 ≤ 255)
  have len_b : l_b ≤ 9223372036854775807 := by obtain ⟨fuel, hf⟩ := h1; exact leny_of_trod Try.underlying36 Try.underlying5 (by kernel_rfl) hf rfl
  obtain ⟨x, rfl, rfl, rfl, wf_x⟩ := open_int Try.underlying5 (hval 2 5 v2 rfl rfl) h2
  have bd_x := bounds_u8 wf_x
  obtain ⟨k_x, rfl⟩ : ∃ k : Nat, x = k := ⟨x.toNat, by omega⟩
  obtain ⟨y, rfl, rfl, rfl, wf_y⟩ := open_int Try.underlying5 (hval 3 5 v3 rfl rfl) h3
  have bd_y := bounds_u8 wf_y
  obtain ⟨k_y, rfl⟩ : ∃ k : Nat, y = k := ⟨y.toNat, by omega⟩
  obtain ⟨z, rfl, rfl, rfl, wf_z⟩ := open_int Try.underlying5 (hval 4 5 v4 rfl rfl) h4
  have bd_z := bounds_u8 wf_z
  obtain ⟨k_z, rfl⟩ : ∃ k : Nat, z = k := ⟨z.toNat, by omega⟩
  clear hA0 hval0
  refine (alone_law a_a a_b l_a l_b c_a c_b x_a x_b k_x k_y k_z W row_a.1 row_b.1 row_a.2 row_b.2 len_b (by omega) (by omega) (by omega)).mono fun e W' ⟨he, bel⟩ => ?_
  subst he
  exact ⟨_, rfl, _, _, _, [], _, [], hW', trodAll_mk1 (shut_bool Try.underlying4 _), (trodAll_cons_mk (Below.trod cufAlone_laidOut (by kernel_rfl) (of_decide_eq_true (by kernel_rfl)) k0 bel lt0) (trodAll_cons_mk (Below.trod cufAlone_laidOut (by kernel_rfl) (of_decide_eq_true (by kernel_rfl)) k1 bel lt1) (trodAll_cons_mk (Below.trod cufAlone_laidOut (by kernel_rfl) (of_decide_eq_true (by kernel_rfl)) k2 bel lt2) (trodAll_cons_mk (Below.trod cufAlone_laidOut (by kernel_rfl) (of_decide_eq_true (by kernel_rfl)) k3 bel lt3) (trodAll_cons_mk (Below.trod cufAlone_laidOut (by kernel_rfl) (of_decide_eq_true (by kernel_rfl)) k4 bel lt4) trodAll_mk0))))), rfl, bel.frame _, fun h => by cases h⟩

theorem cufAlone_holds : Rows.CufAloneSaid :=
  OpenClaim.holds_of_wide 5 Try.f5 rfl rfl rfl rfl rfl rfl rfl ⟨rfl, rfl, rfl, rfl, rfl⟩ rfl rfl rfl rfl rfl (by kernel_rfl) Try.func5 (by kernel_rfl)
    (of_decide_eq_true (by kernel_rfl)) (by unfold Func.isWrapper; first | (rw [if_pos (by decide +kernel)]; kernel_rfl) | (rw [if_neg (by decide +kernel)]; exact ⟨rfl, rfl⟩))
    (fun os started H enc _ => cufAlone_lifted os started H enc)
#print axioms cufAlone_holds

end Go.Proofs.Ytigcddafiaadiaa
