/- PROVED: the law PlayMade (of scripts by numbers: each event, the cells and how many steps are the document's; every operation has one event, of its worker, in its order; it ends where the steps end) returns true at every input, and leaves its arguments as they were. The table of math/bits is as the program's text lays it (tied). -/
import Derived.Test.YtpfcpeljfgmjgaaDoorRows
import Derived.Test.YtpfcpeljfgmjgaaDoorCards
import Derived.Test.YtpfcpeljfgmjgaaDoorTie
import Derived.Test.YtpfcpeljfgmjgaaDoorZpr
import Derived.Test.YtpfcpeljfgmjgaaDoorQmadez
import Derived.ProofKit
import Derived.LaidMore
import Derived.OpenShut
import Derived.ShutString
import Derived.ChangeOld
import Derived.Lib.SmallJoins
import Derived.Stop.Joined
import Derived.SevenTiedAt
namespace Go.Proofs.YtpfcpeljfgmjgaaDoor
open Go.ChangeShapes Go.WideShapes Go.ChangeAt Go.RowKit Go.Joins
open Go.ChangeMaps (open_string shut_string)
set_option linter.unusedVariables false

theorem playMade_own : ownKnob Tryd.prog.godebug = none := by kernel_rfl
theorem playMade_laidOut : laidOutB Tryd.prog = true := by kernel_rfl
theorem playMade_met (os : Os) (args : Array Value) : laidMetH Tryd.prog [("math/bits.deBruijn64tab", Rows.laid_math_bits_deBruijn64tab)] ((World.doorLaid Tryd.prog 14 os).forCall (fun _ _ => 0) ⟨#[], args, []⟩).memory :=
  laidMetH_of_parts3 (fuel := 8) (laidMet_of_run' 8 (by kernel_rfl) (by kernel_rfl)) (by kernel_rfl) (by kernel_rfl)

set_option maxRecDepth 100000 in
theorem playMade_lifted (os : Os) (started : os.Started) (H : Type) (enc : TypeId × Value → H) :
    ReturnsInHanded {} Tryd.checked os 4 .any (fun w args => (Rows.playMadeSpec.pre enc Tryd.prog Tryd.f4 [] false w args ∧ laidMetH Tryd.prog [("math/bits.deBruijn64tab", Rows.laid_math_bits_deBruijn64tab)] w) ∧ sizedMet enc Tryd.prog Tryd.f4 (OpenSpec.ofChange Rows.playMadeSpec) false w args)
      (Rows.playMadeSpec.post enc Tryd.prog Tryd.f4 false true false false) := by
  refine returnsInHanded_of_change_and (C := Tryd.checked) (X := fun w _ => laidMetH Tryd.prog [("math/bits.deBruijn64tab", Rows.laid_math_bits_deBruijn64tab)] w) (fun _ _ _ hh h => h.of_heap hh) playMade_own started (by kernel_rfl) Tryd.func4
    (ChangeSpec.witness_shaped (enc := enc) (C := Tryd.checked) (os := os) (X := fun w _ => laidMetH Tryd.prog [("math/bits.deBruijn64tab", Rows.laid_math_bits_deBruijn64tab)] w) false (World.doorLaid Tryd.prog 14 os) #[.slice none 0 0, .slice none 0 0, .slice none 0 0] 8 rfl (World.shaped_of_RefB (by kernel_rfl) (by kernel_rfl)) (by kernel_rfl) (by kernel_rfl) (by kernel_rfl) (playMade_met os _)) ?_
  intro W base args ds gs before hval0 hW _ _ hL _
  have hval : ∀ (j : Nat) t v, Tryd.f4.params[j]? = some t → args[j]? = some v → Value.okWide Tryd.prog W .any base t v := hval0
  have hW' := hW
  obtain ⟨p, q, hA0, hV, rfl, hfz, hnd⟩ := hW
  have hA : DataW.TrodAll enc Tryd.prog W 0 (fun _ => true) true Tryd.f4.params.toList args.toList ds p := hA0
  rw [Tryd.params4] at hA hval
  obtain ⟨v0, vs0, d0, ds0, p0, q0, hargs, rfl, rfl, h0, r0⟩ := trodAll_cons hA
  obtain ⟨v1, vs1, d1, ds1, p1, q1, rfl, rfl, rfl, h1, r1⟩ := trodAll_cons r0
  obtain ⟨v2, vs2, d2, ds2, p2, q2, rfl, rfl, rfl, h2, r2⟩ := trodAll_cons r1
  obtain ⟨rfl, rfl, rfl⟩ := trodAll_nil r2
  obtain rfl : args = #[v0, v1, v2] := by cases args; simp_all
  obtain ⟨rfl, rfl⟩ := trodVars_none hV
  have tabW := tab_of_laid hL
  have k0 := h0
  have lt0 : ∀ x ∈ p0, x.block < W.heap.size := by obtain ⟨m, hm⟩ := k0; exact DataW.trod_lt m _ _ _ hm
  have k1 := h1
  have lt1 : ∀ x ∈ p1, x.block < W.heap.size := by obtain ⟨m, hm⟩ := k1; exact DataW.trod_lt m _ _ _ hm
  have k2 := h2
  have lt2 : ∀ x ∈ p2, x.block < W.heap.size := by obtain ⟨m, hm⟩ := k2; exact DataW.trod_lt m _ _ _ hm
  obtain ⟨a_p, l_p, c_p, rfl⟩ := okWide_slice Tryd.underlying35 (hval 0 35 v0 rfl rfl)
  obtain ⟨x_p, row_p⟩ := (by obtain ⟨fuel, hf⟩ := h0; exact RowY_of_trod Tryd.underlying35 Tryd.underlying5 (by kernel_rfl) hf rfl : ∃ xs, RowY 0 W.heap.size W a_p l_p xs ∧ ∀ i, i < l_p → xs.getD i 0 ≤ 255)
  have len_p : l_p ≤ 9223372036854775807 := by obtain ⟨fuel, hf⟩ := h0; exact leny_of_trod Tryd.underlying35 Tryd.underlying5 (by kernel_rfl) hf rfl
  obtain ⟨a_s, l_s, c_s, rfl⟩ := okWide_slice Tryd.underlying36 (hval 1 36 v1 rfl rfl)
  have grid_s : GridY W a_s l_s := by obtain ⟨fuel, hf⟩ := h1; exact GridY_of_trod Tryd.underlying36 Tryd.underlying35 Tryd.underlying5 (by kernel_rfl) (by kernel_rfl) hf rfl
  obtain ⟨a_c, l_c, c_c, rfl⟩ := okWide_slice Tryd.underlying22 (hval 2 22 v2 rfl rfl)
  obtain ⟨x_c, row_c⟩ : ∃ xs, Row 0 W.heap.size W a_c l_c xs := by obtain ⟨fuel, hf⟩ := h2; exact Row_of_trod Tryd.underlying22 Tryd.underlying3 (by kernel_rfl) hf rfl
  have cap_c : l_c ≤ c_c := by obtain ⟨fuel, hf⟩ := h2; exact cap_of_trod Tryd.underlying22 Tryd.underlying3 (by kernel_rfl) hf rfl
  clear hA0 hval0
  refine (made_law a_p a_s a_c l_p l_s l_c c_p c_s c_c x_p x_c W row_p.1 row_p.2 len_p grid_s row_c cap_c tabW).mono fun e W' ⟨he, bel⟩ => ?_
  subst he
  exact ⟨_, rfl, _, _, _, [], _, [], hW', trodAll_mk1 (shut_bool Tryd.underlying4 _), (trodAll_cons_mk (Below.trod playMade_laidOut (by kernel_rfl) (of_decide_eq_true (by kernel_rfl)) k0 bel lt0) (trodAll_cons_mk (Below.trod playMade_laidOut (by kernel_rfl) (of_decide_eq_true (by kernel_rfl)) k1 bel lt1) (trodAll_cons_mk (Below.trod playMade_laidOut (by kernel_rfl) (of_decide_eq_true (by kernel_rfl)) k2 bel lt2) trodAll_mk0))), rfl, bel.frame _, fun h => by cases h⟩

theorem playMade_holds : Rows.PlayMadeSaid :=
  OpenClaim.holds_of_wide 4 Tryd.f4 rfl rfl rfl rfl rfl rfl rfl ⟨rfl, rfl, rfl, rfl, rfl⟩ rfl rfl rfl rfl rfl (by kernel_rfl) Tryd.func4 (by kernel_rfl)
    (of_decide_eq_true (by kernel_rfl)) (by unfold Func.isWrapper; first | (rw [if_pos (by decide +kernel)]; kernel_rfl) | (rw [if_neg (by decide +kernel)]; exact ⟨rfl, rfl⟩))
    (fun os started H enc _ => playMade_lifted os started H enc)

theorem playMade_card : Rows.PlayMadeCardSaid :=
  Claim7.holds_tied_plain_at .later [] [.data] true _ _
    playMade_holds (fun _ h => by cases h) (by kernel_rfl) (fun _ h => by cases h) playMade_row_tie rfl ⟨rfl, rfl⟩ (by kernel_rfl) rfl
    (fun f fn hf hfn => by
      obtain rfl : f = 4 := Option.some.inj ((show Tryd.prog.funcNamed "warp/warplaw5.PlayMade" = some 4 by kernel_rfl).symm.trans hf) |>.symm
      obtain rfl : fn = Tryd.f4 := (Option.some.inj (Tryd.func4.symm.trans hfn)).symm
      exact ⟨by kernel_rfl, fun j t ht => by
        rw [Tryd.params4] at ht
        have hm : t ∈ [35, 36, 22] := by simpa using Array.mem_of_getElem? ht
        have hall : ([35, 36, 22].all fun u => !Tryd.prog.wantsStandIn u) = true := by kernel_rfl
        exact (show Tryd.prog.wantsStandIn t = false by simpa using List.all_eq_true.1 hall t hm)⟩)
    (by kernel_rfl)
#print axioms playMade_card

end Go.Proofs.YtpfcpeljfgmjgaaDoor
