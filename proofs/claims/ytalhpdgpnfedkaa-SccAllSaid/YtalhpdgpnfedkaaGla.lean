/- The law SccAll. -/
import Derived.Test.YtalhpdgpnfedkaaGga
namespace Go.Proofs.Ytalhpdgpnfedkaa
open Go.RowKit Go.Maps
set_option linter.unusedVariables false
set_option linter.unusedSimpArgs false

set_option maxRecDepth 100000 in
set_option maxHeartbeats 4000000 in
theorem all_law (a : Option Addr) (n c : Nat) (g : Gr) (x y : Int) (w : World) (hg : GW w.heap.size w a n g) :
    Calls Try.prog 3 #[.slice a n c, .int .i64 x, .int .i64 y] w fun e w' => e = .returned (.bool true) ∧ Below w.heap.size w w' := by
  have HGR := Lib.hid (great_any a n c g w hg)
  cases hb : greatB g with
  | true =>
    rw [hb] at HGR
    clear hg hb
    go_enter Try.func3, Try.ntmps3
    go_wp2_with (go_at_call 8; (with_reducible refine (HGR.out).mono ?_); rintro e w' ⟨rfl, rfl⟩)
    go_ret
    exact ⟨rfl, Below.refl _ _⟩
  | false =>
    rw [hb] at HGR
    have hnr : n ≤ 40 ∧ ∀ i, (rowG g i).length ≤ 300 := by
      have h1 := of_decide_eq_false hb
      have hgl := hg.1
      refine ⟨by omega, fun i => ?_⟩
      by_cases hi : i < g.length
      · have := sumG_row (g := g) (i := i) (j := min g.length 60) (by omega)
        omega
      · rw [rowG_out (by omega)]; simp
    have hgi := hg.gi (by omega) (fun i => by have := hnr.2 i; omega)
    have hn := hnr.1
    have HGI := Lib.hid hgi
    have HOF := Lib.hid (of_any a n c g w hgi (Nat.le_refl _) (by omega))
    have HRG : Hid (∀ W, Below w.heap.size w W → Calls Try.prog 11 #[.slice a n c] W fun e w' => Below W.heap.size W w' ∧ ∃ a c', e = .returned (.slice a (grpL g).length c') ∧ GI w'.heap.size w' a (grpL g).length (grpL g)) := fun W h => rgroups_any a n c g W (HGI.out.below h (Nat.le_refl _)) h.size (by omega)
    obtain ⟨b, hbb⟩ : ∃ b, rchB g x y = b := ⟨_, rfl⟩
    have HRE : Hid (∀ W, Below w.heap.size w W → Calls Try.prog 12 #[.slice a n c, .int .i64 x, .int .i64 y] W fun e w' => e = .returned (.bool b) ∧ Below W.heap.size W w') := fun W h => by
      have := reach_any a n c g x y W (HGI.out.below h (Nat.le_refl _)) h.size (by omega)
      rwa [hbb] at this
    have HRR : Hid (∀ W, Below w.heap.size w W → Calls Try.prog 13 #[.slice a n c, .int .i64 x, .int .i64 y] W fun e w' => e = .returned (.bool b) ∧ Below W.heap.size W w') := fun W h => by
      have := rreach_any a n c g x y W (HGI.out.below h (Nat.le_refl _)) h.size (by omega)
      rwa [hbb] at this
    obtain ⟨Lg, hLg⟩ : ∃ Lg, grpL g = Lg := ⟨_, rfl⟩
    obtain ⟨m, hm⟩ : ∃ m, Lg.length = m := ⟨_, rfl⟩
    rw [hLg, hm] at HOF HRG
    clear hg hb hnr hgi hbb hLg hm
    cases b with
    | true =>
      go_enter Try.func3, Try.ntmps3
      go_wp2_with (first
        | (go_at_call 8; (with_reducible refine (HGR.out).mono ?_); rintro e w' ⟨rfl, rfl⟩)
        | (go_at_call 10; (with_reducible refine (HOF.out).mono ?_); rintro e w4 ⟨hb4, a4, c4, rfl, hgi4⟩; have HB4 := Lib.hid hb4; have HG4 := Lib.hid hgi4; clear hb4 hgi4)
        | (go_at_call 11; (with_reducible refine (HRG.out _ HB4.out).mono ?_); rintro e w5 ⟨hb5, a5, c5, rfl, hgi5⟩; have HB5 := Lib.hid (HB4.out.trans (hb5.mono HB4.out.size)); have HG5 := Lib.hid hgi5; have HSM := Lib.hid (same_any w5 Lg Lg a4 a5 m m c4 c5 (HG4.out.below hb5 (Nat.le_refl _)) hgi5 hb5.size (Nat.le_refl _)); clear hb5 hgi5)
        | (go_at_call 9; (with_reducible refine (HSM.out).mono ?_); simp only [decide_true]; rintro e w6 ⟨rfl, hb6⟩; have HB6 := Lib.hid (HB5.out.trans (hb6.mono HB5.out.size)); clear hb6)
        | (go_at_call 12; (with_reducible refine (HRE.out _ HB6.out).mono ?_); rintro e w7 ⟨rfl, hb7⟩; have HB7 := Lib.hid (HB6.out.trans (hb7.mono HB6.out.size)); clear hb7)
        | (go_at_call 13; (with_reducible refine (HRR.out _ HB7.out).mono ?_); rintro e w8 ⟨rfl, hb8⟩; have HB8 := Lib.hid (HB7.out.trans (hb8.mono HB7.out.size)); clear hb8)
        | (go_at_call 14; (with_reducible refine (awake_any _).mono ?_); rintro e w9 ⟨rfl, hb9⟩; have HB9 := Lib.hid (HB8.out.trans (hb9.mono HB8.out.size)); clear hb9))
      go_ret
      exact ⟨rfl, HB9.out⟩
    | false =>
      go_enter Try.func3, Try.ntmps3
      go_wp2_with (first
        | (go_at_call 8; (with_reducible refine (HGR.out).mono ?_); rintro e w' ⟨rfl, rfl⟩)
        | (go_at_call 10; (with_reducible refine (HOF.out).mono ?_); rintro e w4 ⟨hb4, a4, c4, rfl, hgi4⟩; have HB4 := Lib.hid hb4; have HG4 := Lib.hid hgi4; clear hb4 hgi4)
        | (go_at_call 11; (with_reducible refine (HRG.out _ HB4.out).mono ?_); rintro e w5 ⟨hb5, a5, c5, rfl, hgi5⟩; have HB5 := Lib.hid (HB4.out.trans (hb5.mono HB4.out.size)); have HG5 := Lib.hid hgi5; have HSM := Lib.hid (same_any w5 Lg Lg a4 a5 m m c4 c5 (HG4.out.below hb5 (Nat.le_refl _)) hgi5 hb5.size (Nat.le_refl _)); clear hb5 hgi5)
        | (go_at_call 9; (with_reducible refine (HSM.out).mono ?_); simp only [decide_true]; rintro e w6 ⟨rfl, hb6⟩; have HB6 := Lib.hid (HB5.out.trans (hb6.mono HB5.out.size)); clear hb6)
        | (go_at_call 12; (with_reducible refine (HRE.out _ HB6.out).mono ?_); rintro e w7 ⟨rfl, hb7⟩; have HB7 := Lib.hid (HB6.out.trans (hb7.mono HB6.out.size)); clear hb7)
        | (go_at_call 13; (with_reducible refine (HRR.out _ HB7.out).mono ?_); rintro e w8 ⟨rfl, hb8⟩; have HB8 := Lib.hid (HB7.out.trans (hb8.mono HB7.out.size)); clear hb8)
        | (go_at_call 14; (with_reducible refine (awake_any _).mono ?_); rintro e w9 ⟨rfl, hb9⟩; have HB9 := Lib.hid (HB8.out.trans (hb9.mono HB8.out.size)); clear hb9))
      go_ret
      exact ⟨rfl, HB9.out⟩

end Go.Proofs.Ytalhpdgpnfedkaa
