/- The walk of the law TableAgain: it returns true and changes nothing that was there. -/
import Derived.Test.YthhcchdjeeigpaaDoorTfact
namespace Go.Proofs.YthhcchdjeeigpaaDoor
open Go.RowKit Go.Maps
set_option linter.unusedVariables false
set_option linter.unusedSimpArgs false

set_option maxRecDepth 100000 in
set_option maxHeartbeats 4000000 in
theorem tagain_law (a1 a4 a5 : Option Addr) (l1 l4 l5 c1 c4 c5 A B : Nat) (x4 x5 : List Int) (w : World) (h1 : TGridY w a1 l1) (hA : A ≤ 255) (hB : B ≤ 255)
    (h4 : Row 0 w.heap.size w a4 l4 x4) (h5 : Row 0 w.heap.size w a5 l5 x5) (hT : Tab w) :
    Calls Tryd.prog 12 #[.slice a1 l1 c1, .int .u8 (A : Int), .int .u8 (B : Int), .slice a4 l4 c4, .slice a5 l5 c5] w fun e w' => e = .returned (.bool true) ∧ Below w.heap.size w w' := by
  have H1 := Lib.hid h1
  have H4 := Lib.hid h4
  have H5 := Lib.hid h5
  have HT := Lib.hid hT
  have hTl := hT.lt
  clear h1 h4 h5 hT
  by_cases g4 : (300 : Int) < (l4 : Int)
  · have HA := Lib.hid (awake_any8 w HT.out)
    go_enter Tryd.func12, Tryd.ntmps12
    go_wp2_with (first | (go_at_call 27; (with_reducible refine (HA.out).mono ?_); rintro e w' ⟨rfl, hb⟩))
    go_ret
    exact ⟨rfl, hb⟩
  by_cases g5 : (300 : Int) < (l5 : Int)
  · have HA := Lib.hid (awake_any8 w HT.out)
    go_enter Tryd.func12, Tryd.ntmps12
    go_wp2_with (first | (go_at_call 27; (with_reducible refine (HA.out).mono ?_); rintro e w' ⟨rfl, hb⟩))
    go_ret
    exact ⟨rfl, hb⟩
  go_enter Tryd.func12, Tryd.ntmps12
  go_wp2_with fail
  refine (keys_any a1 l1 c1 w H1.out).mono ?_
  rintro e w2 ⟨a', c', ss, rfl, hs10, hmade, hscr, hb2⟩
  have s2 := hb2.size
  have hsum := kmade_sum hmade hs10
  obtain ⟨W, hW⟩ : ∃ W, ss.length = W := ⟨_, rfl⟩
  have hs10' := hs10
  rw [hW] at hs10 hscr ⊢
  obtain ⟨N, hN⟩ : ∃ N, 3 * (ss.map List.length).sum = N := ⟨_, rfl⟩
  have hN1 : N ≤ 360 := by omega
  have HSUM := Lib.hid hsum
  have HMD := Lib.hid hmade
  have HSC := Lib.hid hscr
  have HNN := Lib.hid hN
  have HB2 := Lib.hid hb2
  have HT2 := Lib.hid (HT.out.below hb2 hTl)
  clear hscr hmade hb2 hW hs10' hsum hN
  go_wp2_with fail
  refine (tplay_any a' a4 W c' l4 c4 ss x4 200 (A : Int) w2 HSC.out (Nat.le_refl _) (H4.out.below HB2.out (Nat.le_refl _)) s2 (by omega) (by have := HSUM.out; omega) (by omega) (kmade_fit HMD.out) HT2.out N HNN.out).mono ?_
  rintro e w3 ⟨g1, kv1, gs1, rfl, hr1, hb3⟩
  have s3 := hb3.size
  have hE1 := tt_end (sg (A : Int)) 200 x4 ss
  unfold ttEnd at hE1
  rw [HNN.out] at hE1
  obtain ⟨ka, kc, rfl, hk1⟩ := hr1.keys
  obtain ⟨G1, hG1⟩ : ∃ G, ttAt (sg (A : Int)) 200 x4 ss N = G := ⟨_, rfl⟩
  rw [hG1] at hE1 hk1 hr1 ⊢
  have HE1 := Lib.hid hE1
  have HK1 := Lib.hid hk1
  have HB3 : Hid (Below w.heap.size w w3) := HB2.out.trans (hb3.mono s2)
  have HSC3 : Hid (KScr w2.heap.size w3 a' W ss) := HSC.out.below hb3 (Nat.le_refl _)
  have HT3 : Hid (Tab w3) := HT.out.below HB3.out hTl
  clear hE1 hk1 hr1 hb3 hG1
  go_wp2_with fail
  refine (tplay_any a' a5 W c' l5 c5 ss x5 200 (B : Int) w3 HSC3.out s3 (H5.out.below HB3.out (Nat.le_refl _)) (by omega) (by omega) (by have := HSUM.out; omega) (by omega) (kmade_fit HMD.out) HT3.out N HNN.out).mono ?_
  rintro e w4 ⟨g2, kv2, gs2, rfl, hr2, hb4⟩
  have s4 := hb4.size
  have hE2 := tt_end (sg (B : Int)) 200 x5 ss
  unfold ttEnd at hE2
  rw [HNN.out] at hE2
  obtain ⟨kb, kd, rfl, hk2⟩ := hr2.keys
  obtain ⟨G2, hG2⟩ : ∃ G, ttAt (sg (B : Int)) 200 x5 ss N = G := ⟨_, rfl⟩
  rw [hG2] at hE2 hk2 hr2 ⊢
  obtain ⟨hlen, hsub⟩ := tend_same HE1.out hE2 (by have := HSUM.out; omega) (by have := HSUM.out; omega)
  have hf1 := tend_fit HE1.out HMD.out
  have hf2 := tend_fit hE2 HMD.out
  have hM := HE1.out.cnt
  have hk1 := HK1.out.below hb4 (Nat.le_refl _)
  have HB4 : Hid (Below w.heap.size w w4) := HB3.out.trans (hb4.mono (by omega))
  have HT4 : Hid (Tab w4) := HT.out.below HB4.out hTl
  obtain ⟨ks, hks⟩ : ∃ ks, G1.keys = ks := ⟨_, rfl⟩
  obtain ⟨ms, hms⟩ : ∃ ms, G2.keys = ms := ⟨_, rfl⟩
  rw [hks] at hlen hsub hf1 hM hk1 ⊢
  rw [hms] at hlen hsub hf2 hk2 ⊢
  obtain ⟨M, hMl⟩ : ∃ M, ks.length = M := ⟨_, rfl⟩
  have hM1 : M ≤ 120 := by have := HSUM.out; omega
  have hml : ms.length = M := by omega
  rw [hMl] at hk1 ⊢
  rw [hml] at hk2 ⊢
  have HK1' := Lib.hid hk1
  have HK2' := Lib.hid hk2
  have HSUB := Lib.hid hsub
  have HF1 := Lib.hid hf1
  have HF2 := Lib.hid hf2
  have HML := Lib.hid hMl
  have HMM := Lib.hid hml
  have hG := ky_guard_eq
  clear hlen hsub hf1 hf2 hk1 hk2 hE2 hr2 hb4 hks hms hMl hml HE1 HK1 hM hG2
  have hMM : ((M : Int) != (M : Int)) = false := by simp
  have hNNe : ((N : Int) != (N : Int)) = false := by simp
  have hWW : ((W : Int) != (W : Int)) = false := by simp
  go_wp2_with fail
  clear hMM hNNe hWW
  go_loopg [20] (M) (fun gn i wr => ∃ r q : Nat, gn + r ≤ M ∧ M ≤ gn + r ∧ i = .int .i64 r ∧ wr = w4.drewN q)
  case atStart => exact ⟨0, 0, by omega, by omega, rfl, rfl⟩
  case round =>
    obtain ⟨r, q, hr1, hr2, rfl, rfl⟩ := hrel
    by_cases hlt : r < M
    · obtain ⟨b1, o1, rfl, _, hb1, hc1⟩ := keys_cell HK1'.out (by omega)
      obtain ⟨b2, o2, rfl, _, hb2, hc2⟩ := keys_cell HK2'.out (by omega)
      obtain ⟨x, hx⟩ : ∃ x, ks[r]? = some x := ⟨_, List.getElem?_eq_getElem (by rw [HML.out]; exact hlt)⟩
      obtain ⟨u0, u1, u2⟩ := hc1 r x hx
      have hxm := HSUB.out x (List.mem_of_getElem? hx)
      have hxf := HF1.out x (List.mem_of_getElem? hx)
      have HC2 := Lib.hid hc2
      have HXM := Lib.hid hxm
      have HXF := Lib.hid hxf
      clear hc1 hc2 hx hxm hxf
      go_wp2_with fail
      go_loopg [21, 22] (M) (fun gn inn d wx => ∃ j q : Nat, gn + j ≤ M ∧ M ≤ gn + j ∧ d = .int .i64 j ∧ inn = .bool (decide (x ∈ ms.take j)) ∧ wx = w4.drewN q)
      case atStart => exact ⟨0, q, by omega, by omega, rfl, by simp, rfl⟩
      case round =>
        obtain ⟨j, q, hj1, hj2, rfl, rfl, rfl⟩ := hrel
        by_cases hjl : j < M
        · obtain ⟨y, hy⟩ : ∃ y, ms[j]? = some y := ⟨_, List.getElem?_eq_getElem (by rw [HMM.out]; exact hjl)⟩
          obtain ⟨v0, v1, v2⟩ := HC2.out j y hy
          have hE := fun W' : World => ky_eq (a := x) (b := y) W' HXF.out (HF2.out y (List.mem_of_getElem? hy))
          have hnext : decide (x ∈ ms.take (j + 1)) = (decide (x ∈ ms.take j) || decide (x = y)) := by
            rw [List.take_add_one, hy]
            simp
          obtain ⟨p, hp⟩ : ∃ p, decide (x ∈ ms.take j) = p := ⟨_, rfl⟩
          obtain ⟨p2, hp2⟩ : ∃ p, decide (x = y) = p := ⟨_, rfl⟩
          rw [hp, hp2] at hnext
          simp only [hp2] at hE
          rw [hp]
          have HNX := Lib.hid hnext
          clear hnext hp hp2 hy
          cases p
          · go_wp2_with fail
            go_loud (go_quiet (fail))
            go_wp2_with fail
            go_roundg (M - (j + 1))
            case measure => omega
            case rel => exact ⟨j + 1, _, by omega, by omega, by go_num, by rw [HNX.out]; rfl, rfl⟩
          · go_wp2_with fail
            go_loud (go_quiet (fail))
            go_wp2_with fail
            go_roundg (M - (j + 1))
            case measure => omega
            case rel => exact ⟨j + 1, _, by omega, by omega, by go_num, by rw [HNX.out]; rfl, rfl⟩
        · obtain rfl : j = M := by omega
          have hin : decide (x ∈ ms.take j) = true := by
            rw [← HMM.out, List.take_length]
            exact decide_eq_true HXM.out
          rw [hin]
          clear hin
          go_wp2_with fail
          go_roundg (j - (r + 1))
          case measure => omega
          case rel => exact ⟨r + 1, _, by omega, by omega, by go_num, rfl⟩
    · obtain rfl : r = M := by omega
      have HA := Lib.hid (awake_any8 (w4.drewN q) (HT4.out.below (below_drewN' (Below.refl _ _) _) HT4.out.lt))
      go_wp2_with (first | (go_at_call 27; (with_reducible refine (HA.out).mono ?_); rintro e w' ⟨rfl, hb6⟩))
      go_ret
      exact ⟨rfl, (below_drewN' HB4.out _).trans (hb6.mono (by have := HB4.out.size; rw [size_drewN']; omega))⟩

end Go.Proofs.YthhcchdjeeigpaaDoor
