/- The law WaveAll. -/
import Derived.Test.YtdbjmonboecfgaaVe
import Derived.Test.YtdbjmonboecfgaaGga
namespace Go.Proofs.Ytdbjmonboecfgaa
open Go.RowKit Go.Maps
set_option linter.unusedVariables false
set_option linter.unusedSimpArgs false

theorem box_row {w : World} {b : Nat} {p : List Nat} (h : Box w b 3 (intsOf p)) {n : Nat} (hn : p.length = n) : Row 0 w.heap.size w (some ⟨b, 0, none⟩) n (p.map fun n : Nat => (n : Int)) := by
  subst hn
  have := row_box (w := w) (b := b) (r := p.map fun n : Nat => (n : Int)) (by rw [List.map_map]; exact h)
  rwa [List.length_map] at this

set_option maxRecDepth 100000 in
set_option maxHeartbeats 8000000 in
theorem waveall_law (a : Option Addr) (n c : Nat) (g : Gr) (w : World) (hg : GW w.heap.size w a n g) :
    Calls Try.prog 4 #[.slice a n c] w fun e w' => e = .returned (.bool true) ∧ Below w.heap.size w w' := by
  have HGR := Lib.hid (great_any a n c g w hg)
  cases hb : greatB g with
  | true =>
    rw [hb] at HGR
    clear hg hb
    go_enter Try.func4, Try.ntmps4
    go_wp2_with (go_at_call 14; (with_reducible refine (HGR.out).mono ?_); rintro e w' ⟨rfl, rfl⟩)
    go_ret
    exact ⟨rfl, Below.refl _ _⟩
  | false =>
    rw [hb] at HGR
    have hnr : n ≤ 40 ∧ ∀ i, (rowG g i).length ≤ 300 := by
      have h1 := of_decide_eq_false hb
      have hgl := hg.1
      refine ⟨by omega, fun i => ?_⟩
      by_cases hi : i < g.length
      · have := sumG_row (g := g) (i := i) (j := min g.length 60) (by omega)
        omega
      · rw [rowG_out (by omega)]; simp
    have hgi := hg.gi (by omega) (fun i => by have := hnr.2 i; omega)
    have hn := hnr.1
    have HGI := Lib.hid hgi
    obtain ⟨LV, hLV⟩ : ∃ LV, lvL g = LV := ⟨_, rfl⟩
    obtain ⟨WV, hWV⟩ : ∃ WV, wvL g = WV := ⟨_, rfl⟩
    obtain ⟨m, hm⟩ : ∃ m, (grpL g).length = m := ⟨_, rfl⟩
    obtain ⟨k, hk⟩ : ∃ k, WV.length = k := ⟨_, rfl⟩
    have HLN : Hid (LV.length = m) := by show _ = _; rw [← hLV, lvL_len]; exact hm
    have HMB : Hid (m ≤ 40) := by
      show m ≤ 40
      have h9 : (grpL g).length ≤ g.length := grpI_len
      have := hg.1
      omega
    have HLV : Hid (∀ W, Below w.heap.size w W → Calls Try.prog 15 #[.slice a n c] W fun e w' => Below W.heap.size W w' ∧ ∃ q, e = .returned (.slice (some ⟨q, 0, none⟩) m m) ∧ W.heap.size ≤ q ∧ Box w' q 3 (intsOf LV)) := fun W h => by
      have := levels_any a n c g W (HGI.out.below h (Nat.le_refl _)) h.size (by omega)
      rwa [hLV, hm] at this
    have HRL : Hid (∀ W, Below w.heap.size w W → Calls Try.prog 16 #[.slice a n c] W fun e w' => Below W.heap.size W w' ∧ ∃ q, e = .returned (.slice (some ⟨q, 0, none⟩) m m) ∧ W.heap.size ≤ q ∧ Box w' q 3 (intsOf LV)) := fun W h => by
      have := rlevels_any a n c g W (HGI.out.below h (Nat.le_refl _)) h.size (by omega)
      rwa [hLV, hm] at this
    have HWV : Hid (∀ W, Below w.heap.size w W → Calls Try.prog 17 #[.slice a n c] W fun e w' => Below W.heap.size W w' ∧ ∃ a c', e = .returned (.slice a k c') ∧ GI w'.heap.size w' a k WV) := fun W h => by
      have := waves_any a n c g W (HGI.out.below h (Nat.le_refl _)) h.size (by omega)
      rwa [hWV, hk] at this
    have HRW : Hid (∀ W, Below w.heap.size w W → Calls Try.prog 18 #[.slice a n c] W fun e w' => Below W.heap.size W w' ∧ ∃ a c', e = .returned (.slice a k c') ∧ GI w'.heap.size w' a k WV) := fun W h => by
      have := rwaves_any a n c g W (HGI.out.below h (Nat.le_refl _)) h.size (by omega)
      rwa [hWV, hk] at this
    clear hg hb hnr hgi hLV hWV hm hk
    go_enter Try.func4, Try.ntmps4
    go_wp2_with (first
      | (go_at_call 14; (with_reducible refine (HGR.out).mono ?_); rintro e w' ⟨rfl, rfl⟩)
      | (go_at_call 15; (with_reducible refine (HLV.out _ (Below.refl _ _)).mono ?_); rintro e w1 ⟨hb1, q1, rfl, _, hx1⟩; have HB1 := Lib.hid hb1; have HX1 := Lib.hid hx1; clear hb1 hx1)
      | (go_at_call 16; (with_reducible refine (HRL.out _ HB1.out).mono ?_); rintro e w2 ⟨hb2, q2, rfl, _, hx2⟩; have HB2 := Lib.hid (HB1.out.trans (hb2.mono HB1.out.size)); have HIN := Lib.hid (ints_any (some ⟨q1, 0, none⟩) (some ⟨q2, 0, none⟩) m m m m _ _ w2 (box_row (HX1.out.below hb2) HLN.out) (box_row hx2 HLN.out) (by have := HMB.out; omega)); clear hb2 hx2)
      | (go_at_call 13; (with_reducible refine (HIN.out).mono ?_); simp only [decide_true]; rintro e w3 ⟨rfl, k3, rfl⟩; have HB3 := Lib.hid (below_drewN HB2.out k3); clear HIN)
      | (go_at_call 17; (with_reducible refine (HWV.out _ HB3.out).mono ?_); rintro e w4 ⟨hb4, a4, c4, rfl, hgi4⟩; have HB4 := Lib.hid (HB3.out.trans (hb4.mono HB3.out.size)); have HG4 := Lib.hid hgi4; clear hb4 hgi4)
      | (go_at_call 18; (with_reducible refine (HRW.out _ HB4.out).mono ?_); rintro e w5 ⟨hb5, a5, c5, rfl, hgi5⟩; have HB5 := Lib.hid (HB4.out.trans (hb5.mono HB4.out.size)); have HSM := Lib.hid (same_any w5 WV WV a4 a5 k k c4 c5 (HG4.out.below hb5 (Nat.le_refl _)) hgi5 hb5.size (Nat.le_refl _)); clear hb5 hgi5)
      | (go_at_call 12; (with_reducible refine (HSM.out).mono ?_); simp only [decide_true]; rintro e w6 ⟨rfl, hb6⟩; have HB6 := Lib.hid (HB5.out.trans (hb6.mono HB5.out.size)); clear hb6)
      | (go_at_call 19; (with_reducible refine (awake6_any _).mono ?_); rintro e w9 ⟨rfl, hb9⟩; have HB9 := Lib.hid (HB6.out.trans (hb9.mono HB6.out.size)); clear hb9))
    go_ret
    exact ⟨rfl, HB9.out⟩

end Go.Proofs.Ytdbjmonboecfgaa
