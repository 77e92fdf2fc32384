/- Contract of the document's Play where there is no script. -/
import Derived.Test.YtpfcpeljfgmjgaaDoorZpq
import Derived.Test.YtpfcpeljfgmjgaaDoorPofz
import Derived.Test.YtpfcpeljfgmjgaaDoorPtasksz
import Derived.Test.YtpfcpeljfgmjgaaDoorPlaylz
import Derived.Test.YtpfcpeljfgmjgaaDoorPscrz
import Derived.Deep.QuietTactic
import Derived.Deep.DeepCutAuto
namespace Go.Proofs.YtpfcpeljfgmjgaaDoor
open Go.RowKit
set_option linter.unusedVariables false
set_option linter.unusedSimpArgs false

theorem rowB_box2 {w : World} {b : Nat} {t : TypeId} {en : List Bool} {r : Nat} (h : Box w b t (en.map Value.bool)) (hl : en.length = r) : RowB 0 w.heap.size w (some ⟨b, 0, none⟩) r en := by
  refine ⟨hl, .inr ⟨b, 0, rfl, Nat.zero_le _, h.lt, fun i hi => ?_⟩⟩
  rw [Nat.zero_add, h.cell i, List.getElem?_map, List.getElem?_eq_getElem (by omega)]
  simp [List.getD, show i < en.length by omega]

theorem Tryd.boolInfo2 : (Tryd.prog.info? 4).map (fun i => (i.zero, i.size, i.bytes)) = some (some (.bool false), 1, 1) := by kernel_rfl

set_option maxRecDepth 100000 in
set_option maxHeartbeats 8000000 in
theorem rplay_nil (a b c : Option Addr) (la ca cb lc cc : Nat) (xs : List Int) (w : World) {lx hx : Nat} (hxs : Row lx hx w c lc xs) (hx1 : hx ≤ w.heap.size) (hm1 : la ≤ 4096) (hm4 : lc ≤ 100000) :
    Calls Tryd.prog 13 #[.slice a la ca, .slice b 0 cb, .slice c lc cc] w fun e w' => ∃ (cu : Nat) (au : Option Addr), e = .returned (.agg #[.slice none 0 0, .slice au la cu, .int .i64 0]) ∧ RowN 0 w'.heap.size w' au la (List.range la) ∧ Below w.heap.size w w' := by
  have HX := Lib.hid hxs
  clear hxs
  go_enter Tryd.func13, Tryd.ntmps13
  go_wp2_with fail
  have hk0 : Below w.heap.size w (w.alloc (.cells #[.slice none 0 0, .slice none 0 0, .int .i64 0] 30)) := by go_grown
  have bR := Box.new w 30 [.slice none 0 0, .slice none 0 0, .int .i64 0]
  simp only [List.toArray] at bR
  generalize w.alloc (.cells #[.slice none 0 0, .slice none 0 0, .int .i64 0] 30) = w0 at *
  have HK0 := Lib.hid hk0
  have HBR := Lib.hid bR
  have hw00 := bR.lt
  clear hk0 bR
  go_loopg [8, 9] (0) (fun gn s i wr => i = .int .i64 0 ∧ s = .int .i64 0 ∧ w0 = wr)
  case atStart => exact ⟨rfl, rfl, rfl⟩
  case round =>
    obtain ⟨rfl, rfl, rfl⟩ := hrel
    go_wp2_with fail
    refine (rnew_any (la : Int) w0).mono ?_
    rw [cutN_nat (by omega)]
    rintro e w1 ⟨au, cu, rfl, hup, hun, hb1⟩
    have s1 := hb1.size
    have HUP := Lib.hid hup
    have HB1 : Hid (Below w.heap.size w w1) := HK0.out.trans (hb1.mono HK0.out.size)
    have HBR1 : Hid (Box w1 w.heap.size 30 [.slice none 0 0, .slice none 0 0, .int .i64 0]) := HBR.out.below hb1
    clear hup hun hb1
    go_wp2_with fail
    have hb2 : Below w1.heap.size w1 (w1.alloc (.cells #[.slice none 0 0, .slice au la cu, .int .i64 0] 30)) := by go_grown
    have bO := Box.new w1 30 [.slice none 0 0, .slice au la cu, .int .i64 0]
    simp only [List.toArray] at bO
    obtain ⟨O, hO⟩ : ∃ O, w1.heap.size = O := ⟨_, rfl⟩
    have HOE := Lib.hid hO
    generalize w1.alloc (.cells #[.slice none 0 0, .slice au la cu, .int .i64 0] 30) = w2 at *
    have HBO : Hid (Box w2 O 30 [.slice none 0 0, .slice au la cu, .int .i64 0]) := by show Box _ _ _ _; rw [← hO]; exact bO
    have HBR2 : Hid (Box w2 w.heap.size 30 [.slice none 0 0, .slice none 0 0, .int .i64 0]) := HBR1.out.below hb2
    have HUP2 : Hid (RowN w0.heap.size w1.heap.size w2 au la (List.range la)) := HUP.out.below hb2 (Nat.le_refl _)
    have HB2 : Hid (Below w.heap.size w w2) := HB1.out.trans (hb2.mono HB1.out.size)
    have hwO : w.heap.size < O := by have := HBR1.out.lt; omega
    rw [hO]
    clear hb2 bO HBR HBR1 HUP HB1 hO
    go_loopg [11, 12] (0) (fun gn v i wr => i = .int .i64 0 ∧ v = .slice none 0 0 ∧ w2 = wr)
    case atStart => exact ⟨rfl, rfl, rfl⟩
    case round =>
      obtain ⟨rfl, rfl, rfl⟩ := hrel
      go_wp2_with fail
      refine (rstart_any c lc cc w2).mono ?_
      rintro e w4 ⟨rfl, hb4⟩
      have HB4 := Lib.hid hb4
      have s4 := hb4.size
      clear hb4
      go_wp2_with fail
      have kD : Below w4.heap.size w4 (w4.alloc (.cells #[.slice c lc cc, .int .i64 0, .int .i64 (-1)] 88)) := by go_grown
      have bD := Box.new w4 88 [.slice c lc cc, .int .i64 0, .int .i64 (-1)]
      have sD : (w4.alloc (.cells #[.slice c lc cc, .int .i64 0, .int .i64 (-1)] 88)).heap.size = w4.heap.size + 1 := World.size_alloc _ _
      simp only [List.toArray] at bD
      generalize w4.alloc (.cells #[.slice c lc cc, .int .i64 0, .int .i64 (-1)] 88) = w5 at *
      have hb5 : Below w2.heap.size w2 w5 := HB4.out.trans (kD.mono s4)
      have HB5 : Hid (Below w.heap.size w w5) := HB2.out.trans (hb5.mono (by have := HB2.out.size; omega))
      have HR5 : Hid (Box w5 w.heap.size 30 [.slice none 0 0, .slice none 0 0, .int .i64 0]) := HBR2.out.below hb5
      have HO5 : Hid (Box w5 O 30 [.slice none 0 0, .slice au la cu, .int .i64 0]) := HBO.out.below hb5
      have HUP5 : Hid (RowN w0.heap.size w1.heap.size w5 au la (List.range la)) := HUP2.out.below hb5 (by have := HBO.out.lt; have := HOE.out; omega)
      have HD5 : Hid (Box w5 w4.heap.size 88 [.slice c lc cc, .int .i64 0, .int .i64 (-1)]) := bD
      have hOl := HO5.out.lt
      have s25 := hb5.size
      have s12 : w1.heap.size ≤ w2.heap.size := by have := HBO.out.lt; have := HOE.out; omega
      have hX5 : Hid (Row lx hx w5 c lc xs) := HX.out.below HB5.out hx1
      have hup1 : w1.heap.size ≤ w5.heap.size := by omega
      have hpi : -1 = nextI xs (0 : Int) (-1) [] := by simp [nextI, on]
      obtain ⟨D, hD⟩ : ∃ D, w4.heap.size = D := ⟨_, rfl⟩
      rw [hD] at HD5
      rw [hD]
      clear kD bD sD hb5 HB4 HBO HBR2 HUP2 HB2 HK0 hD hpi
      go_loopg [16] (0) (fun gn s16 wr => w5 = wr)
      case atStart => exact rfl
      case round =>
        obtain rfl := hrel
        obtain ⟨b0, hb0, hb1, hb2, hb3⟩ := info_parts Tryd.boolInfo2
        have hmake : ∀ W, Sem.run Tryd.prog (Instr.makeSlice 70 (.int .i64 0) (.int .i64 0)) W = .ok (.slice (some ⟨W.heap.size, 0, none⟩) 0 0) (W.alloc (.cells #[] 4)) := by
          intro W
          have := run_makeSlice (P := Tryd.prog) (w := W) 70 4 b0 (.bool false) Tryd.underlying70 hb0 hb1 .i64 .i64 0 0 (by omega) (Int.le_refl _) (by rw [hb2]; omega) (by rw [hb3]; omega) (by omega)
          rw [hb2] at this
          rw [this]
          congr 3
          apply Array.toList_inj.1
          rw [show (Value.bool false).cells = #[Value.bool false] from rfl]
          simp [toList_madeCells_one]
        go_wp2_with fail
        have kE : Below w5.heap.size w5 (w5.alloc (.cells #[] 4)) := by go_grown
        have bE := Box.new w5 4 []
        simp only [List.toArray] at bE
        generalize w5.alloc (.cells #[] 4) = wE at *
        have hrow : RowB 0 wE.heap.size wE (some ⟨w5.heap.size, 0, none⟩) 0 [] := rowB_box2 (en := []) bE rfl
        have HKE := Lib.hid kE
        have HBE := Lib.hid hrow
        clear kE bE hmake hrow
        go_loopg [17] (0) (fun gn i wr => i = .int .i64 0 ∧ wE = wr)
        case atStart => exact ⟨rfl, rfl⟩
        case round =>
          obtain ⟨rfl, rfl⟩ := hrel
          have hkb := HKE.out
          have se := hkb.size
          have hDx := HD5.out.below hkb
          obtain ⟨_, _, _⟩ := hDx.three
          have hDr := hDx.lt
          have HPK := Lib.hid (fun w' (h : Below wE.heap.size wE w') => pick_any c (some ⟨w5.heap.size, 0, none⟩) lc cc 0 0 xs [] (0 : Int) (-1) w' ((hX5.out.below hkb (by have := HB5.out.size; omega)).below h (by have := HB5.out.size; omega)) (by have := HB5.out.size; have := h.size; omega) (by omega) (HBE.out.below h (Nat.le_refl _)) h.size (by omega))
          have HN1 : Hid (nextI xs (0 : Int) (-1) [] = -1) := by show _ = _; simp [nextI, on]
          clear hDx
          go_wp2_with fail
          refine (HPK.out _ (Below.refl _ _)).mono ?_
          rw [HN1.out]
          rintro e w7 ⟨rfl, hb7⟩
          have s7 := hb7.size
          have hb57 : Below w5.heap.size w5 w7 := hkb.trans (hb7.mono se)
          have hOx := HO5.out.below hb57
          have hRx := HR5.out.below hb57
          obtain ⟨_, _, _, _, _, _⟩ := hOx.three
          obtain ⟨_, _, _, _, _, _⟩ := hRx.three
          have hO7 := hOx.lt
          have hR7 := hRx.lt
          have HUP7 : Hid (RowN w0.heap.size w1.heap.size w7 au la (List.range la)) := HUP5.out.below hb57 hup1
          have HB7 : Hid (Below w.heap.size w w7) := HB5.out.trans (hb57.mono (by have := HB5.out.size; omega))
          clear hOx hRx hb7 hb57 hkb
          go_wp2_with fail
          refine bodyPost_ret (v := .agg #[.slice none 0 0, .slice au la cu, .int .i64 0]) (by simp only [results, Tryd.results13]; go_simp) rfl ?_
          have hRne : ∀ b, b ≠ w.heap.size → ((((w7.setCell ⟨w.heap.size, 0, none⟩ (.slice none 0 0)).setCell ⟨w.heap.size, 1, none⟩ (.slice au la cu)).setCell ⟨w.heap.size, 2, none⟩ (.int .i64 0))).heap[b]? = w7.heap[b]? := fun b hb => by
            rw [Below.heap_setCell _ ⟨w.heap.size, 2, none⟩ _ b hb, Below.heap_setCell _ ⟨w.heap.size, 1, none⟩ _ b hb, Below.heap_setCell _ ⟨w.heap.size, 0, none⟩ _ b hb]
          have hszR : ((((w7.setCell ⟨w.heap.size, 0, none⟩ (.slice none 0 0)).setCell ⟨w.heap.size, 1, none⟩ (.slice au la cu)).setCell ⟨w.heap.size, 2, none⟩ (.int .i64 0))).heap.size = w7.heap.size := by simp
          have hbR : Below w.heap.size w7 ((((w7.setCell ⟨w.heap.size, 0, none⟩ (.slice none 0 0)).setCell ⟨w.heap.size, 1, none⟩ (.slice au la cu)).setCell ⟨w.heap.size, 2, none⟩ (.int .i64 0))) := (((Below.refl _ _).setCell (p := ⟨w.heap.size, 0, none⟩) (Nat.le_refl _) _).setCell (p := ⟨w.heap.size, 1, none⟩) (Nat.le_refl _) _).setCell (p := ⟨w.heap.size, 2, none⟩) (Nat.le_refl _) _
          generalize ((((w7.setCell ⟨w.heap.size, 0, none⟩ (.slice none 0 0)).setCell ⟨w.heap.size, 1, none⟩ (.slice au la cu)).setCell ⟨w.heap.size, 2, none⟩ (.int .i64 0))) = w8 at *
          refine ⟨cu, au, rfl, ?_, ?_⟩
          · have hup := HUP7.out.agree (w' := w8) fun b b1 b2 => hRne b (by omega)
            exact (hup.alloc (by rw [hszR]; omega) _).mono (Nat.zero_le _) (by rw [World.size_alloc, hszR]; omega)
          · exact (HB7.out.trans hbR).alloc (by rw [hszR]; have := HB7.out.size; omega) _

end Go.Proofs.YtpfcpeljfgmjgaaDoor
