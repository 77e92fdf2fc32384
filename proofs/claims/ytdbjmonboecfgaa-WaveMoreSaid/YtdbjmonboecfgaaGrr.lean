/- The document's Reach; SameLists. -/
import Derived.Test.YtdbjmonboecfgaaGrf
import Derived.Deep.RegionHeld3
namespace Go.Proofs.Ytdbjmonboecfgaa
open Go.RowKit Go.Maps
set_option linter.unusedVariables false
set_option linter.unusedSimpArgs false

set_option maxRecDepth 100000 in
set_option maxHeartbeats 16000000 in
theorem same_any {hi hi' : Nat} (w : World) (xs ys : Gr) (a a' : Option Addr) (m m' c c' : Nat) (h : GI hi w a m xs) (h' : GI hi' w a' m' ys) (hh : hi ≤ w.heap.size) (hh' : hi' ≤ w.heap.size) :
    Calls Try.prog 12 #[.slice a m c, .slice a' m' c'] w fun e w' => e = .returned (.bool (decide (xs = ys))) ∧ Below w.heap.size w w' := by
  have hlx := h.1
  have hly := h'.1
  have hm2 := h.2.1
  by_cases hne : m = m'
  · subst hne
    have HX := Lib.hid h
    have HY := Lib.hid h'
    have HL : Hid (xs.length = m ∧ ys.length = m) := ⟨hlx, hly⟩
    clear h h' hlx hly
    go_enter Try.func12, Try.ntmps12
    go_wp2_with fail
    go_loopw [5] (fun iv wr => ∃ i : Nat, i ≤ m ∧ iv = .int .i64 (i : Int) ∧ Hid (∀ j, j < i → rowG xs j = rowG ys j) ∧ Hid (Below w.heap.size w wr)) (fun iv _ => m - (intOf iv).toNat)
    case atStart => exact ⟨0, Nat.zero_le _, rfl, Lib.hid (fun j hj => by omega), Lib.hid (Below.refl _ _)⟩
    case round =>
      obtain ⟨i, hi1, rfl, HP, HB⟩ := hrel
      by_cases hlt : i < m
      · have hx9 := HX.out.below HB.out hh
        have hy9 := HY.out.below HB.out hh'
        obtain ⟨b, off, ai, ci, rfl, hb, hc, hr⟩ := hx9.row hlt
        obtain ⟨b', off', ai', ci', rfl, hb', hc', hr'⟩ := hy9.row hlt
        obtain ⟨n1, hn1⟩ : ∃ n, (rowG xs i).length = n := ⟨_, rfl⟩
        obtain ⟨n2, hn2⟩ : ∃ n, (rowG ys i).length = n := ⟨_, rfl⟩
        have hz1 : n1 ≤ 1000000 := by rw [← hn1]; exact hx9.2.2.1 i
        rw [hn1] at hc hr
        rw [hn2] at hc' hr'
        have hs := HB.out.size
        have HII : Hid (∀ (w' : World), Below wr.heap.size wr w' → Calls Try.prog 13 #[.slice ai n1 ci, .slice ai' n2 ci'] w' fun e w'' => e = .returned (.bool (decide (rowG xs i = rowG ys i))) ∧ Below w'.heap.size w' w'') := fun w' hw => by
          refine (ints_any ai ai' n1 n2 ci ci' _ _ w' (hr.below hw (by omega)) (hr'.below hw (by omega)) (by omega)).mono ?_
          rintro e w2 ⟨rfl, k, rfl⟩
          exact ⟨rfl, below_drewN (Below.refl _ _) _⟩
        have T1 : ∀ W, Sem.run Try.prog (Instr.indexAt 23 (.slice (some ⟨b, off, none⟩) m c) (.int .i64 (i : Int))) W = .ok (.pointer (some ⟨b, off + i, none⟩)) W := fun W => by go_simp
        have T2 : ∀ W, Sem.run Try.prog (Instr.indexAt 23 (.slice (some ⟨b', off', none⟩) m c') (.int .i64 (i : Int))) W = .ok (.pointer (some ⟨b', off' + i, none⟩)) W := fun W => by go_simp
        have hbq : b < wr.heap.size := by omega
        have hbq' : b' < wr.heap.size := by omega
        cases hd : decide (rowG xs i = rowG ys i) with
        | true =>
          have hrow := of_decide_eq_true hd
          rw [hd] at HII
          have HP2 : Hid (∀ j, j < i + 1 → rowG xs j = rowG ys j) := fun j hj => by
            by_cases e : j = i
            · rw [e]; exact hrow
            · exact HP.out j (by omega)
          clear hr hr' hn1 hn2 hd hrow hx9 hy9
          go_upto_region 6 with fail
          go_region_held3 (fun w' => w'.cell? ⟨b, off + i, none⟩ = some (.slice ai n1 ci) ∧ w'.cell? ⟨b', off' + i, none⟩ = some (.slice ai' n2 ci'))
            (first
              | exact ⟨hc, hc'⟩
              | exact ⟨(hb9.cell (p := ⟨b, off + i, none⟩) hbq).trans hc, (hb9.cell (p := ⟨b', off' + i, none⟩) hbq').trans hc'⟩)
            (first
              | (go_at_call 13; (with_reducible refine (HII.out _ (Below.refl _ _).drew).mono ?_); rintro e w9 ⟨rfl, hb8⟩; have hb9 : Below wr.heap.size wr w9 := (Below.refl wr.heap.size wr).drew.trans hb8))
          have HB9 : Hid (Below w.heap.size w w9) := HB.out.trans (hb9.mono HB.out.size)
          go_wp2_with fail
          go_roundw
          case rel => exact ⟨i + 1, by omega, by go_num, HP2, HB9⟩
          case measure => simp [intOf]; omega
        | false =>
          have hrow := of_decide_eq_false hd
          rw [hd] at HII
          have HNE : Hid (xs ≠ ys) := fun e => hrow (by rw [e])
          clear hr hr' hn1 hn2 hd hrow hx9 hy9
          go_upto_region 6 with fail
          go_region_held3 (fun w' => w'.cell? ⟨b, off + i, none⟩ = some (.slice ai n1 ci) ∧ w'.cell? ⟨b', off' + i, none⟩ = some (.slice ai' n2 ci'))
            (first
              | exact ⟨hc, hc'⟩
              | exact ⟨(hb9.cell (p := ⟨b, off + i, none⟩) hbq).trans hc, (hb9.cell (p := ⟨b', off' + i, none⟩) hbq').trans hc'⟩)
            (first
              | (go_at_call 13; (with_reducible refine (HII.out _ (Below.refl _ _).drew).mono ?_); rintro e w9 ⟨rfl, hb8⟩; have hb9 : Below wr.heap.size wr w9 := (Below.refl wr.heap.size wr).drew.trans hb8))
          have HB9 : Hid (Below w.heap.size w w9) := HB.out.trans (hb9.mono HB.out.size)
          go_wp2_with fail
          go_ret
          exact ⟨by rw [decide_eq_false HNE.out]; rfl, HB9.out⟩
      · have him : i = m := by omega
        have HEQ : Hid (xs = ys) := by
          show xs = ys
          apply List.ext_getElem (by rw [HL.out.1, HL.out.2])
          intro j h1 h2
          have := HP.out j (by rw [him, ← HL.out.1]; exact h1)
          simpa [rowG, h1, h2] using this
        have hge : ¬ ((i : Int) < (m : Int)) := by omega
        clear him
        go_wp2_with fail
        go_ret
        exact ⟨by rw [decide_eq_true HEQ.out]; rfl, HB.out⟩
  · have hxy : decide (xs = ys) = false := decide_eq_false fun e => hne (by rw [← hlx, ← hly, e])
    rw [hxy]
    have hni : ((m : Int) == (m' : Int)) = false := by simp; omega
    clear h h' hlx hly hxy
    go_enter Try.func12, Try.ntmps12
    go_wp2_with fail
    go_ret
    exact ⟨rfl, Below.refl _ _⟩

end Go.Proofs.Ytdbjmonboecfgaa
