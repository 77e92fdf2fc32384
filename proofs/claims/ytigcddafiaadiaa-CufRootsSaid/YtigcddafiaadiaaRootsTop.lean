/- PROVED: the law CufRoots (roots change by a uniting's one step alone, and none is parted) returns true at every input, and leaves its arguments as they were. No condition. -/
import Derived.Test.YtigcddafiaadiaaRows
import Derived.Test.YtigcddafiaadiaaOpenc
import Derived.Test.YtigcddafiaadiaaClroots
import Derived.ProofKit
import Derived.OpenShut
import Derived.ShutString
import Derived.ChangeOld
import Derived.Lib.SmallJoins
namespace Go.Proofs.Ytigcddafiaadiaa
open Go.ChangeShapes Go.WideShapes Go.ChangeAt Go.RowKit Go.Joins
open Go.ChangeMaps (open_string shut_string)
set_option linter.unusedVariables false

theorem cufRoots_own : ownKnob Try.prog.godebug = none := by kernel_rfl
theorem cufRoots_laidOut : laidOutB Try.prog = true := by kernel_rfl

set_option maxRecDepth 100000 in
theorem cufRoots_lifted (os : Os) (started : os.Started) (H : Type) (enc : TypeId × Value → H) :
    ReturnsInHanded {} Try.checked os 6 .any (Rows.cufRootsSpec.pre6 enc Try.prog Try.f6 Rows.cufRootsRow.domain false) (Rows.cufRootsSpec.post enc Try.prog Try.f6 false true false false) := by
  refine returnsInHanded_of_change (C := Try.checked) cufRoots_own started (by kernel_rfl) Try.func6
    (ChangeSpec.witness6 (enc := enc) (C := Try.checked) false ⟨#[], #[.slice none 0 0, .slice none 0 0, .slice none 0 0, .slice none 0 0], []⟩ 8 (by kernel_rfl) (by kernel_rfl) (by kernel_rfl) (by kernel_rfl)) ?_
  intro W base args ds gs before hval0 hW hcnd _
  have hval : ∀ (j : Nat) t v, Try.f6.params[j]? = some t → args[j]? = some v → Value.okWide Try.prog W .any base t v := hval0
  have hW' := hW
  obtain ⟨p, q, hA0, hV, rfl, hfz, hnd⟩ := hW
  have hA : DataW.TrodAll enc Try.prog W 0 (fun _ => true) true Try.f6.params.toList args.toList ds p := hA0
  rw [Try.params6] at hA hval
  obtain ⟨v0, vs0, d0, ds0, p0, q0, hargs, rfl, rfl, h0, r0⟩ := trodAll_cons hA
  obtain ⟨v1, vs1, d1, ds1, p1, q1, rfl, rfl, rfl, h1, r1⟩ := trodAll_cons r0
  obtain ⟨v2, vs2, d2, ds2, p2, q2, rfl, rfl, rfl, h2, r2⟩ := trodAll_cons r1
  obtain ⟨v3, vs3, d3, ds3, p3, q3, rfl, rfl, rfl, h3, r3⟩ := trodAll_cons r2
  obtain ⟨rfl, rfl, rfl⟩ := trodAll_nil r3
  obtain rfl : args = #[v0, v1, v2, v3] := by cases args; simp_all
  obtain ⟨rfl, rfl⟩ := trodVars_none hV
  have k0 := h0
  have lt0 : ∀ x ∈ p0, x.block < W.heap.size := by obtain ⟨m, hm⟩ := k0; exact DataW.trod_lt m _ _ _ hm
  have k1 := h1
  have lt1 : ∀ x ∈ p1, x.block < W.heap.size := by obtain ⟨m, hm⟩ := k1; exact DataW.trod_lt m _ _ _ hm
  have k2 := h2
  have lt2 : ∀ x ∈ p2, x.block < W.heap.size := by obtain ⟨m, hm⟩ := k2; exact DataW.trod_lt m _ _ _ hm
  have k3 := h3
  have lt3 : ∀ x ∈ p3, x.block < W.heap.size := by obtain ⟨m, hm⟩ := k3; exact DataW.trod_lt m _ _ _ hm
  obtain ⟨a_a, l_a, c_a, rfl⟩ := okWide_slice Try.underlying36 (hval 0 36 v0 rfl rfl)
  obtain ⟨x_a, row_a⟩ := (by obtain ⟨fuel, hf⟩ := h0; exact RowY_of_trod Try.underlying36 Try.underlying5 (by kernel_rfl) hf rfl : ∃ xs, RowY 0 W.heap.size W a_a l_a xs ∧ ∀ i, i < l_a → xs.getD i 0 ≤ 255)
  have len_a : l_a ≤ 9223372036854775807 := by obtain ⟨fuel, hf⟩ := h0; exact leny_of_trod Try.underlying36 Try.underlying5 (by kernel_rfl) hf rfl
  obtain ⟨a_b, l_b, c_b, rfl⟩ := okWide_slice Try.underlying36 (hval 1 36 v1 rfl rfl)
  obtain ⟨x_b, row_b⟩ := (by obtain ⟨fuel, hf⟩ := h1; exact RowY_of_trod Try.underlying36 Try.underlying5 (by kernel_rfl) hf rfl : ∃ xs, RowY 0 W.heap.size W a_b l_b xs ∧ ∀ i, i < l_b → xs.getD i 0 ≤ 255)
  have len_b : l_b ≤ 9223372036854775807 := by obtain ⟨fuel, hf⟩ := h1; exact leny_of_trod Try.underlying36 Try.underlying5 (by kernel_rfl) hf rfl
  obtain ⟨a_c, l_c, c_c, rfl⟩ := okWide_slice Try.underlying36 (hval 2 36 v2 rfl rfl)
  obtain ⟨x_c, row_c⟩ := (by obtain ⟨fuel, hf⟩ := h2; exact RowY_of_trod Try.underlying36 Try.underlying5 (by kernel_rfl) hf rfl : ∃ xs, RowY 0 W.heap.size W a_c l_c xs ∧ ∀ i, i < l_c → xs.getD i 0 ≤ 255)
  have len_c : l_c ≤ 9223372036854775807 := by obtain ⟨fuel, hf⟩ := h2; exact leny_of_trod Try.underlying36 Try.underlying5 (by kernel_rfl) hf rfl
  obtain ⟨a_d, l_d, c_d, rfl⟩ := okWide_slice Try.underlying36 (hval 3 36 v3 rfl rfl)
  obtain ⟨x_d, row_d⟩ := (by obtain ⟨fuel, hf⟩ := h3; exact RowY_of_trod Try.underlying36 Try.underlying5 (by kernel_rfl) hf rfl : ∃ xs, RowY 0 W.heap.size W a_d l_d xs ∧ ∀ i, i < l_d → xs.getD i 0 ≤ 255)
  have len_d : l_d ≤ 9223372036854775807 := by obtain ⟨fuel, hf⟩ := h3; exact leny_of_trod Try.underlying36 Try.underlying5 (by kernel_rfl) hf rfl
  clear hA0 hval0
  refine (roots_law a_a a_b a_c a_d l_a l_b l_c l_d c_a c_b c_c c_d x_a x_b x_c x_d W row_a.1 row_b.1 row_c.1 row_d.1 row_a.2 row_b.2 row_c.2 row_d.2 len_b).mono fun e W' ⟨he, bel⟩ => ?_
  subst he
  exact ⟨_, rfl, _, _, _, [], _, [], hW', trodAll_mk1 (shut_bool Try.underlying4 _), (trodAll_cons_mk (Below.trod cufRoots_laidOut (by kernel_rfl) (of_decide_eq_true (by kernel_rfl)) k0 bel lt0) (trodAll_cons_mk (Below.trod cufRoots_laidOut (by kernel_rfl) (of_decide_eq_true (by kernel_rfl)) k1 bel lt1) (trodAll_cons_mk (Below.trod cufRoots_laidOut (by kernel_rfl) (of_decide_eq_true (by kernel_rfl)) k2 bel lt2) (trodAll_cons_mk (Below.trod cufRoots_laidOut (by kernel_rfl) (of_decide_eq_true (by kernel_rfl)) k3 bel lt3) trodAll_mk0)))), rfl, bel.frame _, fun h => by cases h⟩

theorem cufRoots_holds : Rows.CufRootsSaid :=
  OpenClaim.holds_of_wide 6 Try.f6 rfl rfl rfl rfl rfl rfl rfl ⟨rfl, rfl, rfl, rfl, rfl⟩ rfl rfl rfl rfl rfl (by kernel_rfl) Try.func6 (by kernel_rfl)
    (of_decide_eq_true (by kernel_rfl)) (by unfold Func.isWrapper; first | (rw [if_pos (by decide +kernel)]; kernel_rfl) | (rw [if_neg (by decide +kernel)]; exact ⟨rfl, rfl⟩))
    (fun os started H enc _ => cufRoots_lifted os started H enc)
#print axioms cufRoots_holds

end Go.Proofs.Ytigcddafiaadiaa
