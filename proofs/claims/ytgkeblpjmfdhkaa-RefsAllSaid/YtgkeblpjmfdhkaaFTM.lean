/- Great; the law RefsAll. -/
import Derived.Test.YtgkeblpjmfdhkaaFLM
import Derived.Test.YtgkeblpjmfdhkaaFRM
import Derived.Deep.RegionHeld3
import Derived.BigRegion
namespace Go.Proofs.Ytgkeblpjmfdhkaa
open Go.RowKit Go.Maps
set_option linter.unusedVariables false
set_option linter.unusedSimpArgs false

theorem IsV.dtp {S : Nat → Prop} {w : World} {v : Value} {x : Dt} (h : IsV S w (dtC x) v) : ∃ (a1 a2 : Option Addr) (c1 c2 : Nat), v = .agg #[.string (strB x.s), .int .i64 x.p, .slice a1 x.vars.length c1, .slice a2 x.cons.length c2] ∧ InC S w (.s x.vars.length 1 (strsC x.vars)) (.slice a1 x.vars.length c1) ∧ InC S w (.s x.cons.length 3 (x.cons.flatMap cnC)) (.slice a2 x.cons.length c2) := by
  obtain ⟨us, rfl, h⟩ := h
  unfold dtC at h
  obtain ⟨u0, r0, rfl, l0⟩ := three_cons (n := 3) h.1
  obtain ⟨u1, r1, rfl, l1⟩ := three_cons (n := 2) l0
  obtain ⟨u2, r2, rfl, l2⟩ := three_cons (n := 1) l1
  obtain ⟨u3, r3, rfl, l3⟩ := three_cons (n := 0) l2
  obtain rfl := List.eq_nil_of_length_eq_zero l3
  obtain rfl := h.head.val
  obtain rfl := h.tail.head.val
  obtain ⟨a1, c1, rfl, _, _⟩ := h.tail.tail.head.slice
  obtain ⟨a2, c2, rfl, _, _⟩ := h.tail.tail.tail.head.slice
  exact ⟨a1, a2, c1, c2, rfl, h.tail.tail.head, h.tail.tail.tail.head⟩

/-- That many tells some number. -/
def FMN (x : Ex) : Prop := ∀ (d : Nat) (S : Nat → Prop) (u : Value) (w : World), d ≤ 81 → IsV S w (exC x) u →
  Calls Try.prog 62 #[u, .int .i64 (d : Int)] w fun e w' => ∃ n : Nat, e = .returned (.int .i64 (n : Int)) ∧ n ≤ 1000 * (83 - d) ∧ Below w.heap.size w w'

set_option maxRecDepth 100000 in
set_option maxHeartbeats 16000000 in
theorem fmn_step (k p : Int) (s : By) (n : Int) (kids : List Ex) (alts : List Al) (hX : ∀ x ∈ kids, FMN x) (hAX : ∀ p s names x, Al.mk p s names x ∈ alts → FMN x) : FMN (.mk k p s n kids alts) := by
  intro d S u w hd hv0
  have hv : IsV (fun q => q < w.heap.size) w (exC (.mk k p s n kids alts)) u := hv0.mono fun q h1 _ => h1
  obtain ⟨a, c, a', c', rfl, hk, hk'⟩ := hv.ex
  have hLm := hk.max_len
  have hLm' := hk'.max_len
  obtain ⟨m, hm⟩ : ∃ m, kids.length = m := ⟨_, rfl⟩
  obtain ⟨m', hm'⟩ : ∃ m', alts.length = m' := ⟨_, rfl⟩
  obtain ⟨z, hz⟩ : ∃ z, strB s = z := ⟨_, rfl⟩
  have hb0 : Below w.heap.size w (w.alloc (.cells #[.int .i64 k, .int .i64 p, .string z, .int .i64 n, .slice a m c, .slice a' m' c'] 43)) := (Below.refl _ w).alloc (Nat.le_refl _) _
  have HB0 := Lib.hid (Box.new w 43 [.int .i64 k, .int .i64 p, .string z, .int .i64 n, .slice a m c, .slice a' m' c'])
  have HBW := Lib.hid hb0
  rw [exsC_eq] at hk
  rw [alsC_eq] at hk'
  have HK := Lib.hid hk
  have HK' := Lib.hid hk'
  rw [hm] at HK hLm
  rw [hm'] at HK' hLm'
  have HM := Lib.hid hm
  have HM' := Lib.hid hm'
  have HX := Lib.hid hX
  have HAX := Lib.hid hAX
  rw [hm, hm', hz]
  clear hv hv0 hk hk' hX hAX hm hm' hz hb0
  by_cases hstop : 80 < d ∨ 20 < m ∨ 20 < m' ∨ 60 < z.size
  · have hB : (1000 : Nat) ≤ 1000 * (83 - d) := by omega
    by_cases h1 : 80 < d
    · have e1 : decide ((80 : Int) < (d : Int)) = true := decide_eq_true (by omega)
      clear h1 hstop
      go_enter Try.func62, Try.ntmps62
      go_wp2_with fail
      go_ret
      exact ⟨1000, rfl, hB, HBW.out⟩
    · have e1 : decide ((80 : Int) < (d : Int)) = false := decide_eq_false (by omega)
      by_cases h2 : 20 < m
      · have e2 : decide ((20 : Int) < (m : Int)) = true := decide_eq_true (by omega)
        clear h1 h2 hstop
        go_enter Try.func62, Try.ntmps62
        go_wp2_with fail
        go_ret
        exact ⟨1000, rfl, hB, HBW.out⟩
      · have e2 : decide ((20 : Int) < (m : Int)) = false := decide_eq_false (by omega)
        by_cases h3 : 20 < m'
        · have e3 : decide ((20 : Int) < (m' : Int)) = true := decide_eq_true (by omega)
          clear h1 h2 h3 hstop
          go_enter Try.func62, Try.ntmps62
          go_wp2_with fail
          go_ret
          exact ⟨1000, rfl, hB, HBW.out⟩
        · have e3 : decide ((20 : Int) < (m' : Int)) = false := decide_eq_false (by omega)
          have h4 : 60 < z.size := by omega
          have e4 : decide ((60 : Int) < (z.size : Int)) = true := decide_eq_true (by omega)
          clear h1 h2 h3 h4 hstop
          go_enter Try.func62, Try.ntmps62
          go_wp2_with fail
          go_ret
          exact ⟨1000, rfl, hB, HBW.out⟩
  · have e1 : decide ((80 : Int) < (d : Int)) = false := decide_eq_false (by omega)
    have e2 : decide ((20 : Int) < (m : Int)) = false := decide_eq_false (by omega)
    have e3 : decide ((20 : Int) < (m' : Int)) = false := decide_eq_false (by omega)
    have e4 : decide ((60 : Int) < (z.size : Int)) = false := decide_eq_false (by omega)
    have hd8 : d ≤ 80 := by omega
    obtain ⟨C, hC⟩ : ∃ C, 1000 * (83 - (d + 1)) = C := ⟨_, rfl⟩
    have hBC : 1000 * (83 - d) = C + 1000 := by omega
    have hC1 : C ≤ 1000000 := by omega
    rw [hBC]
    have HCC := Lib.hid hC
    clear hstop hBC hC
    go_enter Try.func62, Try.ntmps62
    go_upto_region 1 with fail
    obtain ⟨W0, hW0⟩ : ∃ W0, w.alloc (.cells #[.int .i64 k, .int .i64 p, .string z, .int .i64 n, .slice a m c, .slice a' m' c'] 43) = W0 := ⟨_, rfl⟩
    rw [show (w.alloc (.cells ([.int .i64 k, .int .i64 p, .string z, .int .i64 n, .slice a m c, .slice a' m' c'] : List Value).toArray 43)) = W0 from hW0] at HB0
    rw [hW0] at HBW
    try rw [hW0]
    clear hW0
    obtain ⟨_, _, _, _, _, _⟩ := six_cells HB0.out
    have hbl := HB0.out.lt
    go_wp2_with fail
    go_loopw [5, 6] (fun nv iv wr => ∃ (i t : Nat), i ≤ m ∧ iv = .int .i64 (i : Int) ∧ nv = .int .i64 (t : Int) ∧ t ≤ C + 1000 ∧ Hid (Below W0.heap.size W0 wr)) (fun _ iv _ => m - (intOf iv).toNat)
    case atStart => exact ⟨0, 1, Nat.zero_le _, rfl, rfl, by omega, Lib.hid (Below.refl _ _)⟩
    case round =>
      obtain ⟨i, t, hi, rfl, rfl, ht, HB⟩ := hrel
      rename World => wr
      have hbx := HB0.out.below HB.out
      obtain ⟨_, _, _, _, _, _⟩ := six_cells hbx
      have hyl := hbx.lt
      have hGw := HBW.out.trans (HB.out.mono HBW.out.size)
      by_cases hlt : i < m ∧ t < 1000
      · obtain ⟨hlt, ht9⟩ := hlt
        have e5 : decide ((t : Int) < 1000) = true := decide_eq_true (by omega)
        have e6 : decide ((i : Int) < (m : Int)) = true := decide_eq_true (by omega)
        obtain ⟨x, hx⟩ : ∃ x, kids[i]? = some x := ⟨_, List.getElem?_eq_getElem (by rw [HM.out]; exact hlt)⟩
        have hWX := HX.out x (List.mem_of_getElem? hx)
        have hK9 := HK.out.under hGw
        rw [← HM.out] at hK9
        obtain ⟨g, off, us, rfl, hg, hxv, hc⟩ := hK9.elem exC_len hx
        obtain ⟨z0, z1, z2, z3, z4, z5, z6, z7, z8, z9, hz9, _⟩ := hxv.exs
        obtain rfl := agg_inj hz9
        obtain ⟨zt, hzt⟩ : ∃ zt, strB z3 = zt := ⟨_, rfl⟩
        have q0 := hc 0 _ rfl
        have q1 := hc 1 _ rfl
        have q2 := hc 2 _ rfl
        have q3 := hc 3 _ rfl
        have q4 := hc 4 _ rfl
        have q5 := hc 5 _ rfl
        rw [← Nat.add_assoc] at q0 q1 q2 q3 q4 q5
        rw [Nat.add_zero] at q0
        rw [hzt] at q2 hxv
        have T1 : ∀ W, Sem.run Try.prog (Instr.indexAt 40 (.slice (some ⟨g, off, none⟩) m c) (.int .i64 (i : Int))) W = .ok (.pointer (some ⟨g, off + i * 6, none⟩)) W := fun W => by go_simp
        have HCL := Lib.hid (hWX (d + 1) _ _ wr (by omega) hxv)
        rw [HCC.out] at HCL
        rw [show ((d + 1 : Nat) : Int) = (d : Int) + 1 from by omega] at HCL
        clear hxv hc hzt hx hWX hK9 hGw hbx
        go_wp2_with (go_at_call 62; (with_reducible refine (HCL.out).mono ?_); go_loud (rintro e w9 ⟨t9, rfl, ht3, hb9⟩; have HB9 := Lib.hid (HB.out.trans (hb9.mono HB.out.size)); clear hb9))
        go_roundw
        case rel => exact ⟨i + 1, t + t9, by omega, by go_num, by go_num, by omega, HB9⟩
        case measure => simp [intOf]; omega
      · have hor : (decide ((i : Int) < (m : Int)) = false ∧ ¬ i < m) ∨ (decide ((i : Int) < (m : Int)) = true ∧ decide ((t : Int) < 1000) = false ∧ i < m ∧ ¬ t < 1000) := by
          by_cases h1 : i < m
          · exact .inr ⟨decide_eq_true (by omega), decide_eq_false (by omega), by omega, by omega⟩
          · exact .inl ⟨decide_eq_false (by omega), by omega⟩
        clear hlt hGw hbx HK HX
        rcases hor with ⟨e5, n5⟩ | ⟨e5, e6, n5, n6⟩
        all_goals (
          go_wp2_with fail
          go_loopw [5, 7] (fun nv iv wr => ∃ (j t : Nat), j ≤ m' ∧ iv = .int .i64 (j : Int) ∧ nv = .int .i64 (t : Int) ∧ t ≤ C + 1000 ∧ Hid (Below W0.heap.size W0 wr)) (fun _ iv _ => m' - (intOf iv).toNat)
          case atStart => exact ⟨0, t, Nat.zero_le _, rfl, rfl, ht, HB⟩
          case round =>
            clear HB
            obtain ⟨j, t2, hj, rfl, rfl, ht2, HB⟩ := hrel
            rename World => wr
            obtain ⟨wo, rfl⟩ : ∃ wo, wo = wr := ⟨wr, rfl⟩
            have hbx := HB0.out.below HB.out
            obtain ⟨_, _, _, _, _, _⟩ := six_cells hbx
            have hyl := hbx.lt
            have hGw := HBW.out.trans (HB.out.mono HBW.out.size)
            by_cases hlt : j < m' ∧ t2 < 1000
            · obtain ⟨hlt, ht9⟩ := hlt
              have e7 : decide ((t2 : Int) < 1000) = true := decide_eq_true (by omega)
              have e8 : decide ((j : Int) < (m' : Int)) = true := decide_eq_true (by omega)
              obtain ⟨x, hx⟩ : ∃ x, alts[j]? = some x := ⟨_, List.getElem?_eq_getElem (by rw [HM'.out]; exact hlt)⟩
              have hxm := List.mem_of_getElem? hx
              have hK9 := HK'.out.under hGw
              rw [← HM'.out] at hK9
              obtain ⟨g, off, us, rfl, hg, hxv, hc⟩ := hK9.elem alC_len hx
              obtain ⟨p1, s1, names, y⟩ := x
              have hWX := HAX.out p1 s1 names y hxm
              obtain ⟨z0, z1, z2, z3, a1, a2, a3, c1, m2, m3, c2, c3, hz9, hnv, hyv⟩ := al4F hxv
              obtain rfl := agg_inj hz9
              have hcc : ∀ (j' : Nat) (u : Value), ([.int .i64 p1, .string (strB s1), .slice a1 names.length c1, .int .i64 z0, .int .i64 z1, .string (strB z3), .int .i64 z2, .slice a2 m2 c2, .slice a3 m3 c3] : List Value)[j']? = some u → wo.cell? ⟨g, off + (j * 9 + j'), none⟩ = some u := fun j u hu => hc j u hu
              have q2 := hcc 2 _ rfl
              have q3 := hcc 3 _ rfl
              have q4 := hcc 4 _ rfl
              have q5 := hcc 5 _ rfl
              have q6 := hcc 6 _ rfl
              have q7 := hcc 7 _ rfl
              have q8 := hcc 8 _ rfl
              rw [← Nat.add_assoc] at q2 q3 q4 q5 q6 q7 q8
              have T1 : ∀ W, Sem.run Try.prog (Instr.indexAt 41 (.slice (some ⟨g, off, none⟩) m' c') (.int .i64 (j : Int))) W = .ok (.pointer (some ⟨g, off + j * 9, none⟩)) W := fun W => by go_simp
              obtain ⟨nl, hnl⟩ : ∃ nl, names.length = nl := ⟨_, rfl⟩
              obtain ⟨zt, hzt⟩ : ∃ zt, strB z3 = zt := ⟨_, rfl⟩
              rw [hnl] at q2
              rw [hzt] at q5 hyv
              have HCL := Lib.hid (hWX (d + 1) _ _ wo (by omega) hyv)
              rw [HCC.out] at HCL
              rw [show ((d + 1 : Nat) : Int) = (d : Int) + 1 from by omega] at HCL
              clear hcc hc hxv hx hxm hWX hK9 hnv hyv hzt hnl hGw hbx
              by_cases h9 : 20 < nl
              · have e9 : decide ((20 : Int) < (nl : Int)) = true := decide_eq_true (by omega)
                clear h9
                go_wp2_with fail
                go_ret
                exact ⟨1000, rfl, by omega, HBW.out.trans (HB.out.mono HBW.out.size)⟩
              · have e9 : decide ((20 : Int) < (nl : Int)) = false := decide_eq_false (by omega)
                clear h9
                go_wp2_with (go_at_call 62; (with_reducible refine (HCL.out).mono ?_); go_loud (rintro e w9 ⟨t9, rfl, ht3, hb9⟩; have HB9 := Lib.hid (HB.out.trans (hb9.mono HB.out.size)); clear hb9))
                go_roundw
                case rel => exact ⟨j + 1, t2 + t9, by omega, by go_num, by go_num, by omega, HB9⟩
                case measure => (simp [intOf]; omega)
            · have hor : (decide ((j : Int) < (m' : Int)) = false ∧ ¬ j < m') ∨ (decide ((j : Int) < (m' : Int)) = true ∧ decide ((t2 : Int) < 1000) = false ∧ j < m' ∧ ¬ t2 < 1000) := by
                by_cases h1 : j < m'
                · exact .inr ⟨decide_eq_true (by omega), decide_eq_false (by omega), by omega, by omega⟩
                · exact .inl ⟨decide_eq_false (by omega), by omega⟩
              clear hlt
              rcases hor with ⟨e7, n7⟩ | ⟨e7, e8, n7, n8⟩
              all_goals (
                go_wp2_with fail
                go_ret
                exact ⟨t2, rfl, ht2, hGw⟩))
theorem fmn_all : ∀ (d : Nat) (x : Ex), x.deep ≤ d → FMN x
  | 0, .mk k p s n kids alts, h => by simp only [Ex.deep] at h; omega
  | d + 1, .mk k p s n kids alts, h => fmn_step k p s n kids alts (fun x hx => fmn_all d x (by have := Ex.deeps_mem hx; simp only [Ex.deep] at h; omega)) (fun p s names x hx => fmn_all d x (by have h3 := Al.deeps_mem hx; simp only [Ex.deep] at h; simp only [Al.deep] at h3; omega))
theorem fmn_any (x : Ex) : FMN x := fmn_all x.deep x (Nat.le_refl _)

/-- That parts tells some number. -/
def FPT (x : Ty) : Prop := ∀ (d : Nat) (S : Nat → Prop) (u : Value) (w : World), d ≤ 81 → IsV S w (tyC x) u →
  Calls Try.prog 63 #[u, .int .i64 (d : Int)] w fun e w' => ∃ n : Nat, e = .returned (.int .i64 (n : Int)) ∧ n ≤ 1000 * (83 - d) ∧ Below w.heap.size w w'

set_option maxRecDepth 100000 in
set_option maxHeartbeats 16000000 in
theorem fpt_step (k n : Int) (s : By) (kids : List Ty) (hX : ∀ x ∈ kids, FPT x) : FPT (.mk k n s kids) := by
  intro d S u w hd hv0
  have hv : IsV (fun q => q < w.heap.size) w (tyC (.mk k n s kids)) u := hv0.mono fun q h1 _ => h1
  obtain ⟨a, c, rfl, hk⟩ := hv.ty
  have hLm := hk.max_len
  obtain ⟨m, hm⟩ : ∃ m, kids.length = m := ⟨_, rfl⟩
  obtain ⟨z, hz⟩ : ∃ z, strB s = z := ⟨_, rfl⟩
  have hb0 : Below w.heap.size w (w.alloc (.cells #[.int .i64 k, .int .i64 n, .string z, .slice a m c] 120)) := (Below.refl _ w).alloc (Nat.le_refl _) _
  have HB0 := Lib.hid (Box.new w 120 [.int .i64 k, .int .i64 n, .string z, .slice a m c])
  have HBW := Lib.hid hb0
  rw [tysC_eq] at hk
  have HK := Lib.hid hk
  rw [hm] at HK hLm
  have HM := Lib.hid hm
  have HX := Lib.hid hX
  rw [hm, hz]
  clear hv hv0 hk hX hm hz hb0
  by_cases hstop : 80 < d ∨ 30 < m ∨ 60 < z.size
  · have hB : (1000 : Nat) ≤ 1000 * (83 - d) := by omega
    by_cases h1 : 80 < d
    · have e1 : decide ((80 : Int) < (d : Int)) = true := decide_eq_true (by omega)
      clear h1 hstop
      go_enter Try.func63, Try.ntmps63
      go_wp2_with fail
      go_ret
      exact ⟨1000, rfl, hB, HBW.out⟩
    · have e1 : decide ((80 : Int) < (d : Int)) = false := decide_eq_false (by omega)
      by_cases h2 : 30 < m
      · have e2 : decide ((30 : Int) < (m : Int)) = true := decide_eq_true (by omega)
        clear h1 h2 hstop
        go_enter Try.func63, Try.ntmps63
        go_wp2_with fail
        go_ret
        exact ⟨1000, rfl, hB, HBW.out⟩
      · have e2 : decide ((30 : Int) < (m : Int)) = false := decide_eq_false (by omega)
        have h4 : 60 < z.size := by omega
        have e4 : decide ((60 : Int) < (z.size : Int)) = true := decide_eq_true (by omega)
        clear h1 h2 h4 hstop
        go_enter Try.func63, Try.ntmps63
        go_wp2_with fail
        go_ret
        exact ⟨1000, rfl, hB, HBW.out⟩
  · have e1 : decide ((80 : Int) < (d : Int)) = false := decide_eq_false (by omega)
    have e2 : decide ((30 : Int) < (m : Int)) = false := decide_eq_false (by omega)
    have e4 : decide ((60 : Int) < (z.size : Int)) = false := decide_eq_false (by omega)
    have hd8 : d ≤ 80 := by omega
    obtain ⟨C, hC⟩ : ∃ C, 1000 * (83 - (d + 1)) = C := ⟨_, rfl⟩
    have hBC : 1000 * (83 - d) = C + 1000 := by omega
    have hC1 : C ≤ 1000000 := by omega
    rw [hBC]
    have HCC := Lib.hid hC
    clear hstop hBC hC
    go_enter Try.func63, Try.ntmps63
    go_upto_region 1 with fail
    obtain ⟨W0, hW0⟩ : ∃ W0, w.alloc (.cells #[.int .i64 k, .int .i64 n, .string z, .slice a m c] 120) = W0 := ⟨_, rfl⟩
    rw [show (w.alloc (.cells ([.int .i64 k, .int .i64 n, .string z, .slice a m c] : List Value).toArray 120)) = W0 from hW0] at HB0
    rw [hW0] at HBW
    try rw [hW0]
    clear hW0
    have i0 := HB0.out.cell 0
    have i1 := HB0.out.cell 1
    have i2 := HB0.out.cell 2
    have i3 := HB0.out.cell 3
    simp only [List.getElem?_cons_zero, List.getElem?_cons_succ] at i0 i1 i2 i3
    have hbl := HB0.out.lt
    go_wp2_with fail
    go_loopw [5, 6] (fun nv iv wr => ∃ (i t : Nat), i ≤ m ∧ iv = .int .i64 (i : Int) ∧ nv = .int .i64 (t : Int) ∧ t ≤ C + 1000 ∧ Hid (Below W0.heap.size W0 wr)) (fun _ iv _ => m - (intOf iv).toNat)
    case atStart => exact ⟨0, 1, Nat.zero_le _, rfl, rfl, by omega, Lib.hid (Below.refl _ _)⟩
    case round =>
      obtain ⟨i, t, hi, rfl, rfl, ht, HB⟩ := hrel
      rename World => wr
      have hbx := HB0.out.below HB.out
      have k0 := hbx.cell 0
      have k1 := hbx.cell 1
      have k2 := hbx.cell 2
      have k3 := hbx.cell 3
      simp only [List.getElem?_cons_zero, List.getElem?_cons_succ] at k0 k1 k2 k3
      have hyl := hbx.lt
      have hGw := HBW.out.trans (HB.out.mono HBW.out.size)
      by_cases hlt : i < m ∧ t < 1000
      · obtain ⟨hlt, ht9⟩ := hlt
        have e5 : decide ((t : Int) < 1000) = true := decide_eq_true (by omega)
        have e6 : decide ((i : Int) < (m : Int)) = true := decide_eq_true (by omega)
        obtain ⟨x, hx⟩ : ∃ x, kids[i]? = some x := ⟨_, List.getElem?_eq_getElem (by rw [HM.out]; exact hlt)⟩
        have hWX := HX.out x (List.mem_of_getElem? hx)
        have hK9 := HK.out.under hGw
        rw [← HM.out] at hK9
        obtain ⟨g, off, us, rfl, hg, hxv, hc⟩ := hK9.elem tyC_len hx
        obtain ⟨z0, z1, z2, z3, z4, z5, hz9⟩ := hxv.tys
        obtain rfl := agg_inj hz9
        obtain ⟨zt, hzt⟩ : ∃ zt, strB z2 = zt := ⟨_, rfl⟩
        have hcc : ∀ (j : Nat) (u : Value), ([.int .i64 z0, .int .i64 z1, .string (strB z2), .slice z3 z4 z5] : List Value)[j]? = some u → wr.cell? ⟨g, off + (i * 4 + j), none⟩ = some u := fun j u hu => hc j u hu
        have q0 := hcc 0 _ rfl
        have q1 := hcc 1 _ rfl
        have q2 := hcc 2 _ rfl
        have q3 := hcc 3 _ rfl
        rw [← Nat.add_assoc] at q0 q1 q2 q3
        rw [Nat.add_zero] at q0
        rw [hzt] at q2 hxv
        have T1 : ∀ W, Sem.run Try.prog (Instr.indexAt 57 (.slice (some ⟨g, off, none⟩) m c) (.int .i64 (i : Int))) W = .ok (.pointer (some ⟨g, off + i * 4, none⟩)) W := fun W => by go_simp
        have HCL := Lib.hid (hWX (d + 1) _ _ wr (by omega) hxv)
        rw [HCC.out] at HCL
        rw [show ((d + 1 : Nat) : Int) = (d : Int) + 1 from by omega] at HCL
        clear hxv hc hcc hzt hx hWX hK9 hGw hbx
        go_wp2_with (go_at_call 63; (with_reducible refine (HCL.out).mono ?_); go_loud (rintro e w9 ⟨t9, rfl, ht3, hb9⟩; have HB9 := Lib.hid (HB.out.trans (hb9.mono HB.out.size)); clear hb9))
        go_roundw
        case rel => exact ⟨i + 1, t + t9, by omega, by go_num, by go_num, by omega, HB9⟩
        case measure => simp [intOf]; omega
      · have hor : (decide ((i : Int) < (m : Int)) = false ∧ ¬ i < m) ∨ (decide ((i : Int) < (m : Int)) = true ∧ decide ((t : Int) < 1000) = false ∧ i < m ∧ ¬ t < 1000) := by
          by_cases h1 : i < m
          · exact .inr ⟨decide_eq_true (by omega), decide_eq_false (by omega), by omega, by omega⟩
          · exact .inl ⟨decide_eq_false (by omega), by omega⟩
        clear hlt
        rcases hor with ⟨e5, n5⟩ | ⟨e5, e6, n5, n6⟩
        all_goals (
          go_wp2_with fail
          go_ret
          exact ⟨t, rfl, ht, hGw⟩)
theorem fpt_all : ∀ (d : Nat) (x : Ty), x.deep ≤ d → FPT x
  | 0, .mk k n s kids, h => by simp only [Ty.deep] at h; omega
  | d + 1, .mk k n s kids, h => fpt_step k n s kids (fun x hx => fpt_all d x (by have := Ty.deeps_mem hx; simp only [Ty.deep] at h; omega))
theorem fpt_any (x : Ty) : FPT x := fpt_all x.deep x (Nat.le_refl _)

end Go.Proofs.Ytgkeblpjmfdhkaa

namespace Go.Proofs.Ytgkeblpjmfdhkaa
open Go.RowKit Go.Maps
set_option linter.unusedVariables false
set_option linter.unusedSimpArgs false

theorem two_cellsY {w : World} {b : Nat} {t : TypeId} {c0 c1 : Value} (h : Box w b t [c0, c1]) : w.cell? ⟨b, 0, none⟩ = some c0 ∧ w.cell? ⟨b, 1, none⟩ = some c1 := ⟨h.cell 0, h.cell 1⟩
theorem lt_cutG (i m : Nat) (K : Nat) (KI : Int) (hK : (K : Int) = KI) : (i < m ∧ i < K ∧ decide ((i : Int) < (m : Int)) = true ∧ decide ((i : Int) < KI) = true) ∨ (¬ i < m ∧ decide ((i : Int) < (m : Int)) = false) ∨ (i < m ∧ ¬ i < K ∧ decide ((i : Int) < (m : Int)) = true ∧ decide ((i : Int) < KI) = false) := by
  by_cases h : i < m
  · by_cases h2 : i < K
    · exact .inl ⟨h, h2, decide_eq_true (by omega), decide_eq_true (by omega)⟩
    · exact .inr (.inr ⟨h, h2, decide_eq_true (by omega), decide_eq_false (by omega)⟩)
  · exact .inr (.inl ⟨h, decide_eq_false (by omega)⟩)

set_option maxRecDepth 100000 in
set_option maxHeartbeats 16000000 in
theorem g_Great {S : Nat → Prop} (ds : List Dt) (bs : List Bd) (w : World) (a1 a2 : Option Addr) (nd nb c1 c2 : Nat) (hnd : ds.length = nd) (hnb : bs.length = nb) (h1 : InC S w (.s ds.length 4 (ds.flatMap dtC)) (.slice a1 nd c1)) (h2 : InC S w (.s bs.length 8 (bs.flatMap bdC)) (.slice a2 nb c2))
    (hfit : ∀ d ∈ ds, d.vars.length ≤ 1000000 ∧ ∀ c ∈ d.cons, c.args.length ≤ 1000000) :
    Calls Try.prog 27 #[.agg #[.slice a1 nd c1, .slice a2 nb c2]] w fun e w' => ∃ b : Bool, e = .returned (.bool b) ∧ Below w.heap.size w w' := by
  have hm1 := h1.max_len
  have hm2 := h2.max_len
  rw [hnd] at hm1
  rw [hnb] at hm2
  have hb0 : Below w.heap.size w (w.alloc (.cells #[.slice a1 nd c1, .slice a2 nb c2] 28)) := (Below.refl _ w).alloc (Nat.le_refl _) _
  have HB0 := Lib.hid (Box.new w 28 [.slice a1 nd c1, .slice a2 nb c2])
  have HBW := Lib.hid hb0
  have HD := Lib.hid (h1.under hb0)
  have HE := Lib.hid (h2.under hb0)
  have HND := Lib.hid hnd
  have HNB := Lib.hid hnb
  have HFIT := Lib.hid hfit
  clear h1 h2 hnd hnb hfit hb0
  go_enter Try.func27, Try.ntmps27
  go_upto_region 1 with fail
  obtain ⟨W0, hW0⟩ : ∃ W0, w.alloc (.cells #[.slice a1 nd c1, .slice a2 nb c2] 28) = W0 := ⟨_, rfl⟩
  rw [show (w.alloc (.cells ([.slice a1 nd c1, .slice a2 nb c2] : List Value).toArray 28)) = W0 from hW0] at HB0
  rw [hW0] at HBW HD HE
  try rw [hW0]
  clear hW0
  obtain ⟨_, _⟩ := two_cellsY HB0.out
  have hbl := HB0.out.lt
  go_wp2_with fail
  go_loopw [3, 4] (fun nv iv wr => ∃ (i t : Nat), i ≤ 20 ∧ iv = .int .i64 (i : Int) ∧ nv = .int .i64 (t : Int) ∧ t ≤ 83000 * i ∧ Hid (Below W0.heap.size W0 wr)) (fun _ iv _ => 20 - (intOf iv).toNat)
  case atStart => exact ⟨0, 0, Nat.zero_le _, rfl, rfl, by omega, Lib.hid (Below.refl _ _)⟩
  case round =>
    obtain ⟨i, t, hi, rfl, rfl, ht, HB⟩ := hrel
    rename World => wr
    have hbx := HB0.out.below HB.out
    obtain ⟨_, _⟩ := two_cellsY hbx
    have hyl := hbx.lt
    clear hbx
    rcases lt_cutG i nb 20 20 rfl with ⟨hlt, hl20, g1i, g2i⟩ | hout
    · obtain ⟨x, hx⟩ : ∃ x, bs[i]? = some x := ⟨_, List.getElem?_eq_getElem (by rw [HNB.out]; exact hlt)⟩
      obtain ⟨g, o, r, rfl, hg, _, hrow, hbody⟩ := (HE.out.under HB.out).bind8 hx
      obtain ⟨xs, xp, xk, xq, xz, xn, xa1, xm1, xd1, xa2, xm2, xd2⟩ := r
      obtain ⟨_, _, q2, q3, q4, q5, q6, q7⟩ := hrow
      dsimp only [BRow.c1, BRow.c2, BRow.c3, BRow.c4, BRow.c5, BRow.c6, BRow.c7] at q2 q3 q4 q5 q6 q7 hbody
      have HCL := Lib.hid (fmn_any x.body 0 _ _ wr (by omega) hbody)
      have T1 : ∀ W, Sem.run Try.prog (Instr.indexAt 26 (.slice (some ⟨g, o, none⟩) nb c2) (.int .i64 (i : Int))) W = .ok (.pointer (some ⟨g, o + i * 8, none⟩)) W := fun W => by go_simp
      rw [show ((0 : Nat) : Int) = 0 from rfl] at HCL
      clear hx hbody
      go_wp2_with (go_at_call 62; (with_reducible refine (HCL.out).mono ?_); go_loud (rintro e w9 ⟨t9, rfl, ht3, hb9⟩; have HB9 := Lib.hid (HB.out.trans (hb9.mono HB.out.size)); clear hb9))
      go_roundw
      case rel => exact ⟨i + 1, t + t9, by omega, by go_num, by go_num, by omega, HB9⟩
      case measure => simp [intOf]; omega
    · have ht20 : t ≤ 1660000 := by omega
      clear ht HE
      rcases hout with ⟨n1, e1⟩ | ⟨n1, n2, e1, e2⟩
      all_goals (
        go_wp2_with fail
        go_loopw [3, 5] (fun nv iv wr => ∃ (i t : Nat), i ≤ 20 ∧ iv = .int .i64 (i : Int) ∧ nv = .int .i64 (t : Int) ∧ t ≤ 1660000 + 71000000 * i ∧ Hid (Below W0.heap.size W0 wr)) (fun _ iv _ => 20 - (intOf iv).toNat)
        case atStart => exact ⟨0, t, Nat.zero_le _, rfl, rfl, by omega, HB⟩
        case round =>
          clear HB
          obtain ⟨i2, t2, hi2, rfl, rfl, ht2, HB⟩ := hrel
          rename World => wr
          have hbx := HB0.out.below HB.out
          obtain ⟨_, _⟩ := two_cellsY hbx
          have hyl := hbx.lt
          clear hbx
          rcases lt_cutG i2 nd 20 20 rfl with ⟨hlt2, hl22, g1i2, g2i2⟩ | hout2
          · obtain ⟨x, hx⟩ : ∃ x, ds[i2]? = some x := ⟨_, List.getElem?_eq_getElem (by rw [HND.out]; exact hlt2)⟩
            obtain ⟨hf1, hf2⟩ := HFIT.out x (List.mem_of_getElem? hx)
            have hD := HD.out
            obtain ⟨g, off, us, rfl, hg, hxv, hc⟩ := hD.elem dtC_len hx
            obtain ⟨b1, b2, d1, d2, hz9, _, hcs⟩ := hxv.dtp
            obtain rfl := agg_inj hz9
            have q2 := hc 2 _ rfl
            have q3 := hc 3 _ rfl
            rw [← Nat.add_assoc] at q2 q3
            have hcm := hcs.max_len
            obtain ⟨nv, hnv⟩ : ∃ nv, x.vars.length = nv := ⟨_, rfl⟩
            obtain ⟨nc, hnc⟩ : ∃ nc, x.cons.length = nc := ⟨_, rfl⟩
            rw [hnv] at q2 hf1
            rw [hnc] at q3 hcm
            have HNC := Lib.hid hnc
            have HCS := Lib.hid hcs
            have HF2 := Lib.hid hf2
            have T1 : ∀ W, Sem.run Try.prog (Instr.indexAt 25 (.slice (some ⟨g, off, none⟩) nd c1) (.int .i64 (i2 : Int))) W = .ok (.pointer (some ⟨g, off + i2 * 4, none⟩)) W := fun W => by go_simp
            have r2 := six_belowF HB.out hg q2
            have r3 := six_belowF HB.out hg q3
            obtain ⟨X, hX⟩ : ∃ X, t2 + nv = X := ⟨_, rfl⟩
            have hXi : ((t2 : Int) + (nv : Int)) = (X : Int) := by omega
            have hXl : X ≤ 2660000 + 71000000 * i2 := by omega
            clear hx hc hxv hcs hf2 hnv hnc hD hX
            go_wp2_with fail
            go_loopw [3, 6] (fun nv iv wr => ∃ (k t : Nat), k ≤ 20 ∧ iv = .int .i64 (k : Int) ∧ nv = .int .i64 (t : Int) ∧ t ≤ X + 3490000 * k ∧ Hid (Below W0.heap.size W0 wr)) (fun _ iv _ => 20 - (intOf iv).toNat)
            case atStart => exact ⟨0, X, Nat.zero_le _, rfl, by go_num, by omega, HB⟩
            case round =>
              clear HB r2 r3 hXi
              obtain ⟨k, t3, hk, rfl, rfl, ht3, HB⟩ := hrel
              rename World => wr
              have hbx := HB0.out.below HB.out
              obtain ⟨_, _⟩ := two_cellsY hbx
              have hyl := hbx.lt
              have r2 := six_belowF HB.out hg q2
              have r3 := six_belowF HB.out hg q3
              clear hbx
              rcases lt_cutG k nc 20 20 rfl with ⟨hlt3, hl23, g1k, g2k⟩ | hout3
              · obtain ⟨y, hy⟩ : ∃ y, x.cons[k]? = some y := ⟨_, List.getElem?_eq_getElem (by rw [HNC.out]; exact hlt3)⟩
                have hfa := HF2.out y (List.mem_of_getElem? hy)
                have hC := HCS.out
                rw [HNC.out] at hC
                rw [← HNC.out] at hC
                obtain ⟨g2, o2, us2, rfl, hg2, hyv, hc2⟩ := hC.elem cnC_len hy
                obtain ⟨b3, d3, hz8, hargs⟩ := hyv.cn
                obtain rfl := agg_inj hz8
                have p2 := hc2 2 _ rfl
                rw [← Nat.add_assoc] at p2
                have ham := hargs.max_len
                rw [tysC_eq] at hargs
                obtain ⟨na, hna⟩ : ∃ na, y.args.length = na := ⟨_, rfl⟩
                rw [hna] at p2 ham hfa
                have HNA := Lib.hid hna
                have HARG := Lib.hid hargs
                have T2 : ∀ W, Sem.run Try.prog (Instr.indexAt 54 (.slice (some ⟨g2, o2, none⟩) nc d2) (.int .i64 (k : Int))) W = .ok (.pointer (some ⟨g2, o2 + k * 3, none⟩)) W := fun W => by go_simp
                have s2 := six_belowF HB.out hg2 p2
                obtain ⟨Y, hY⟩ : ∃ Y, t3 + na = Y := ⟨_, rfl⟩
                have hYi : ((t3 : Int) + (na : Int)) = (Y : Int) := by omega
                have hYl : Y ≤ X + 3490000 * k + 1000000 := by omega
                clear hy hc2 hyv hargs hna hC hY
                go_wp2_with fail
                go_loopw [3, 7] (fun nv iv wr => ∃ (j t : Nat), j ≤ 30 ∧ iv = .int .i64 (j : Int) ∧ nv = .int .i64 (t : Int) ∧ t ≤ Y + 83000 * j ∧ Hid (Below W0.heap.size W0 wr)) (fun _ iv _ => 30 - (intOf iv).toNat)
                case atStart => exact ⟨0, Y, Nat.zero_le _, rfl, by go_num, by omega, HB⟩
                case round =>
                  clear HB r2 r3 s2 hYi
                  obtain ⟨j, t4, hj, rfl, rfl, ht4, HB⟩ := hrel
                  rename World => wr
                  have hbx := HB0.out.below HB.out
                  obtain ⟨_, _⟩ := two_cellsY hbx
                  have hyl := hbx.lt
                  have r2 := six_belowF HB.out hg q2
                  have r3 := six_belowF HB.out hg q3
                  have s2 := six_belowF HB.out hg2 p2
                  clear hbx
                  rcases lt_cutG j na 30 30 rfl with ⟨hlt4, hl24, g1j, g2j⟩ | hout4
                  · obtain ⟨v, hv⟩ : ∃ v, y.args[j]? = some v := ⟨_, List.getElem?_eq_getElem (by rw [HNA.out]; exact hlt4)⟩
                    obtain ⟨g3, o3, us3, rfl, hg3, hvv, hc3⟩ := (HARG.out.under HB.out).elem tyC_len hv
                    obtain ⟨z0, z1, z2, z3, z4, z5, hz7⟩ := hvv.tys
                    obtain rfl := agg_inj hz7
                    have hcc : ∀ (j' : Nat) (u : Value), ([.int .i64 z0, .int .i64 z1, .string (strB z2), .slice z3 z4 z5] : List Value)[j']? = some u → wr.cell? ⟨g3, o3 + (j * 4 + j'), none⟩ = some u := fun j u hu => hc3 j u hu
                    have m0 := hcc 0 _ rfl
                    have m1 := hcc 1 _ rfl
                    have m2 := hcc 2 _ rfl
                    have m3 := hcc 3 _ rfl
                    rw [← Nat.add_assoc] at m0 m1 m2 m3
                    rw [Nat.add_zero] at m0
                    have T3 : ∀ W, Sem.run Try.prog (Instr.indexAt 57 (.slice (some ⟨g3, o3, none⟩) na d3) (.int .i64 (j : Int))) W = .ok (.pointer (some ⟨g3, o3 + j * 4, none⟩)) W := fun W => by go_simp
                    have HCL := Lib.hid (fpt_any v 0 _ _ wr (by omega) hvv)
                    rw [show ((0 : Nat) : Int) = 0 from rfl] at HCL
                    clear hv hvv hc3 hcc
                    go_wp2_with (go_at_call 63; (with_reducible refine (HCL.out).mono ?_); go_loud (rintro e w9 ⟨t9, rfl, ht9, hb9⟩; have HB9 := Lib.hid (HB.out.trans (hb9.mono HB.out.size)); clear hb9))
                    go_roundw
                    case rel => exact ⟨j + 1, t4 + t9, by omega, by go_num, by go_num, by omega, HB9⟩
                    case measure => (simp [intOf]; omega)
                  · have ht40 : t4 ≤ X + 3490000 * (k + 1) := by omega
                    clear ht4
                    rcases hout4 with ⟨u1, f1⟩ | ⟨u1, u2, f1, f2⟩
                    all_goals (
                      go_wp2_with fail
                      go_roundw
                      case rel => exact ⟨k + 1, t4, by omega, by go_num, rfl, ht40, HB⟩
                      case measure => (simp [intOf]; omega))
              · have ht30 : t3 ≤ 1660000 + 71000000 * (i2 + 1) := by omega
                clear ht3
                by_cases h15 : 15 < nc
                · have e15 : decide ((15 : Int) < (nc : Int)) = true := decide_eq_true (by omega)
                  rcases hout3 with ⟨u1, f1⟩ | ⟨u1, u2, f1, f2⟩
                  all_goals (
                    go_wp2_with fail
                    go_ret
                    exact ⟨true, rfl, HBW.out.trans (HB.out.mono HBW.out.size)⟩)
                · have e15 : decide ((15 : Int) < (nc : Int)) = false := decide_eq_false (by omega)
                  rcases hout3 with ⟨u1, f1⟩ | ⟨u1, u2, f1, f2⟩
                  · go_wp2_with fail
                    go_roundw
                    case rel => exact ⟨i2 + 1, t3, by omega, by go_num, rfl, ht30, HB⟩
                    case measure => (simp [intOf]; omega)
                  · exfalso; omega
          · clear HD HFIT
            have hGw := HBW.out.trans (HB.out.mono HBW.out.size)
            rcases hout2 with ⟨u1, f1⟩ | ⟨u1, u2, f1, f2⟩
            all_goals (
              by_cases h6 : 600 < t2
              · have f6 : decide ((600 : Int) < (t2 : Int)) = true := decide_eq_true (by omega)
                go_wp2_with fail
                go_ret
                exact ⟨_, rfl, hGw⟩
              · have f6 : decide ((600 : Int) < (t2 : Int)) = false := decide_eq_false (by omega)
                by_cases h7 : 15 < nb
                · have f7 : decide ((15 : Int) < (nb : Int)) = true := decide_eq_true (by omega)
                  go_wp2_with fail
                  go_ret
                  exact ⟨_, rfl, hGw⟩
                · have f7 : decide ((15 : Int) < (nb : Int)) = false := decide_eq_false (by omega)
                  by_cases h8 : 15 < nd
                  · have f8 : decide ((15 : Int) < (nd : Int)) = true := decide_eq_true (by omega)
                    first
                      | (exfalso; omega)
                      | (go_wp2_with fail
                         go_ret
                         exact ⟨_, rfl, hGw⟩)
                  · have f8 : decide ((15 : Int) < (nd : Int)) = false := decide_eq_false (by omega)
                    first
                      | (exfalso; omega)
                      | (go_wp2_with fail
                         go_ret
                         exact ⟨_, rfl, hGw⟩)))

end Go.Proofs.Ytgkeblpjmfdhkaa

namespace Go.Proofs.Ytgkeblpjmfdhkaa
open Go.RowKit Go.Maps
set_option linter.unusedVariables false
set_option linter.unusedSimpArgs false

set_option maxRecDepth 100000 in
set_option maxHeartbeats 16000000 in
theorem all14_law (ZT : ByteArray) (w : World) (hZ : ZT.size ≤ 9223372036854775807) :
    Calls Try.prog 9 #[.string ZT] w fun e w' => e = .returned (.bool true) ∧ Below w.heap.size w w' := by
  have H4 := Lib.hid (fun (w' : World) => r_awake w')
  obtain ⟨T, hT⟩ : ∃ T, ZT.data.toList = T := ⟨_, rfl⟩
  have hZT := eq_strB hT
  obtain ⟨O, hO⟩ : ∃ O, parseA T = O := ⟨_, rfl⟩
  have hpf := parseA_fit T
  have HY := Lib.hid (fun w => y_ParseA T w hO)
  rw [hO] at hpf
  obtain ⟨e0, he0⟩ : ∃ e0 : Int, (O.e : Int) = e0 := ⟨_, rfl⟩
  rw [← hZT, he0] at HY
  obtain ⟨nb, hnb⟩ : ∃ nb, O.p.binds.length = nb := ⟨_, rfl⟩
  obtain ⟨BS, hBS⟩ : ∃ BS, O.p.binds = BS := ⟨_, rfl⟩
  obtain ⟨DS, hDS⟩ : ∃ DS, O.p.datas = DS := ⟨_, rfl⟩
  have HNB : Hid (BS.length = nb) := by rw [← hBS]; exact hnb
  have hnbl : nb ≤ 100000 := by have := hpf.nb; omega
  have HFIT : Hid (∀ b ∈ BS, b.s.length ≤ 1000000 ∧ b.body.fit ∧ 3 * b.body.nn + 4 ≤ 900000) := fun b hb => by
    rw [← hBS] at hb
    exact ⟨(hpf.binds b hb).1, (hpf.binds b hb).2, by have := hpf.nn; have := sum_mem hb; omega⟩
  have HDF : Hid (∀ d ∈ DS, d.vars.length ≤ 1000000 ∧ ∀ c ∈ d.cons, c.args.length ≤ 1000000) := fun d hd => by
    rw [← hDS] at hd
    exact ⟨(hpf.datas d hd).2.1, hpf.args d hd⟩
  have HNB0 := Lib.hid hnb
  have HBS := Lib.hid hBS
  have HDS := Lib.hid hDS
  have HB1 : Hid (Below w.heap.size w w) := Below.refl _ _
  clear hT hZT hO hpf he0 hnb hBS hDS
  go_enter Try.func9, Try.ntmps9
  go_upto_region 2 with (first
    | (go_at_call 22; (with_reducible refine (HY.out _).mono ?_); go_loud (rintro e w3 ⟨u1, u2, rfl, hv3, hb3⟩; obtain ⟨a1, a2, c1, c2, hab, hd3, hi3⟩ := hv3.pgp; simp only [Value.agg.injEq, Array.mk.injEq, List.cons.injEq, and_true] at hab; obtain ⟨rfl, rfl⟩ := hab; rw [HNB0.out, HBS.out] at hi3; rw [HDS.out] at hd3; rw [HNB0.out, HDS.out]; have HI3 := Lib.hid hi3; have HJ3 := Lib.hid hd3; have HB3 := Lib.hid (HB1.out.trans (hb3.mono HB1.out.size)); clear hv3 hd3 hi3 hb3 HY HNB0 HBS HDS)))
  obtain ⟨nd, hnd⟩ : ∃ nd, DS.length = nd := ⟨_, rfl⟩
  obtain ⟨oa, hoa⟩ : ∃ oa, O.at_ = oa := ⟨_, rfl⟩
  rw [hnd, hoa]
  have HND := Lib.hid hnd
  clear hnd hoa
  have hX := Box.new w3 49 [.slice a1 nd c1, .slice a2 nb c2, .int .i64 e0, .int .i64 oa]
  have hbw : Below w3.heap.size w3 (w3.alloc (.cells #[.slice a1 nd c1, .slice a2 nb c2, .int .i64 e0, .int .i64 oa] 49)) := (Below.refl _ w3).alloc (Nat.le_refl _) _
  have hI := HI3.out.under hbw
  have hJ := HJ3.out.under hbw
  have hB := HB3.out.trans (hbw.mono HB3.out.size)
  obtain ⟨W, hW⟩ : ∃ W, w3.alloc (.cells #[.slice a1 nd c1, .slice a2 nb c2, .int .i64 e0, .int .i64 oa] 49) = W := ⟨_, rfl⟩
  rw [hW] at hX hI hJ hB ⊢
  have HX := Lib.hid hX
  have HI := Lib.hid hI
  have HJ := Lib.hid hJ
  have HB := Lib.hid hB
  have hxl := hX.lt
  clear hW hX hI hJ hB hbw HI3 HJ3 HB3 HB1
  obtain ⟨pb, hpb⟩ : ∃ pb, w3.heap.size = pb := ⟨_, rfl⟩
  rw [hpb] at HX hxl ⊢
  clear hpb
  obtain ⟨_, _, _, _⟩ := four_allm HX.out
  go_cut [19] (fun v19 wx => ∃ b : Bool, v19 = .bool b ∧ Below W.heap.size W wx)
  case first =>
    by_cases h1 : 2000 < ZT.size
    · have e1 : decide ((2000 : Int) < (ZT.size : Int)) = true := decide_eq_true (by omega)
      go_wp2_with fail
      go_meet
      exact ⟨true, rfl, Below.refl _ _⟩
    · have e1 : decide ((2000 : Int) < (ZT.size : Int)) = false := decide_eq_false (by omega)
      by_cases hz : e0 = 0
      · have hz0 : (e0 != 0) = false := by rw [hz]; rfl
        clear hz
        have HGR := Lib.hid (g_Great DS BS W a1 a2 nd nb c1 c2 HND.out HNB.out (by have := HJ.out; rw [HND.out] at this ⊢; exact this) (by rw [HNB.out]; exact HI.out) HDF.out)
        go_wp2_with (go_at_call 27; (with_reducible refine (HGR.out).mono ?_); rintro e wg ⟨b, rfl, hbg⟩)
        go_meet
        exact ⟨b, rfl, hbg⟩
      · have hz0 : (e0 != 0) = true := by simpa using hz
        go_wp2_with fail
        go_meet
        exact ⟨true, rfl, Below.refl _ _⟩
  case rest =>
    obtain ⟨W2, rfl⟩ : ∃ W2, W2 = wc := ⟨wc, rfl⟩
    obtain ⟨b, rfl, hbw⟩ := hcut
    have hX2 := HX.out.below hbw
    have hI2 := HI.out.under hbw
    have hB2 := HB.out.trans (hbw.mono HB.out.size)
    clear HX HI HB HJ HDF hbw
    have HX := Lib.hid hX2
    have HI := Lib.hid hI2
    have HB := Lib.hid hB2
    obtain ⟨_, _, _, _⟩ := four_allm hX2
    have hxl2 := hX2.lt
    clear hX2 hI2 hB2
    cases b with
    | true =>
      go_wp2_with (go_at_call 32; (with_reducible refine (H4.out _).mono ?_); rintro e w7 ⟨rfl, hb7⟩; have HB7 := Lib.hid hb7; clear hb7)
      go_ret
      exact ⟨rfl, HB.out.trans (HB7.out.mono HB.out.size)⟩
    | false =>
      go_wp2_with fail
      go_loopw [4] (fun iv wr => ∃ i : Nat, i ≤ nb ∧ iv = .int .i64 (i : Int) ∧ Hid (Below W2.heap.size W2 wr)) (fun iv _ => nb - (intOf iv).toNat)
      case atStart => exact ⟨0, Nat.zero_le _, rfl, Lib.hid (Below.refl _ _)⟩
      case round =>
        obtain ⟨i, hi, rfl, HR⟩ := hrel
        rename World => wr
        have hbx := HX.out.below HR.out
        obtain ⟨_, _, _, _⟩ := four_allm hbx
        have hyl := hbx.lt
        by_cases hlt : i < nb
        · obtain ⟨x, hx⟩ : ∃ x, BS[i]? = some x := ⟨_, List.getElem?_eq_getElem (by rw [HNB.out]; exact hlt)⟩
          obtain ⟨hf1, hf2, hf3⟩ := HFIT.out x (List.mem_of_getElem? hx)
          have hI9 := HI.out.under HR.out
          rw [← HNB.out] at hI9
          obtain ⟨g, o, r, rfl, hg, _, hrow, hbody⟩ := hI9.bind8 hx
          obtain ⟨xs, xp, xk, xq, xz, xn, xa1, xm1, xd1, xa2, xm2, xd2⟩ := r
          obtain ⟨_, _, q2, q3, q4, q5, q6, q7⟩ := hrow
          dsimp only [BRow.c1, BRow.c2, BRow.c3, BRow.c4, BRow.c5, BRow.c6, BRow.c7] at q2 q3 q4 q5 q6 q7 hbody
          obtain ⟨FL, hFL⟩ : ∃ FL, freeL x.body = FL := ⟨_, rfl⟩
          obtain ⟨nf, hnf⟩ : ∃ nf, FL.length = nf := ⟨_, rfl⟩
          have HFA : Hid (∀ w' : World, Below wr.heap.size wr w' → Calls Try.prog 34 #[.agg #[.int .i64 xk, .int .i64 xq, .string xz, .int .i64 xn, .slice xa1 xm1 xd1, .slice xa2 xm2 xd2]] w' fun e w'' => ∃ a c, e = .returned (.slice a nf c) ∧ InC (fun _ => True) w'' (.s nf 1 (strsC FL)) (.slice a nf c) ∧ Below w'.heap.size w' w'') := fun w' hw => by
            have h := f_Free x.body w' _ hf2 (hbody.under hw) (by omega)
            rw [hFL, hnf] at h
            exact h.mono fun e w'' ⟨a, c, h1, h2, _, h3⟩ => ⟨a, c, h1, h2.mono fun _ _ _ => trivial, h3⟩
          have HFB : Hid (∀ w' : World, Below wr.heap.size wr w' → Calls Try.prog 35 #[.agg #[.int .i64 xk, .int .i64 xq, .string xz, .int .i64 xn, .slice xa1 xm1 xd1, .slice xa2 xm2 xd2]] w' fun e w'' => ∃ a c, e = .returned (.slice a nf c) ∧ InC (fun _ => True) w'' (.s nf 1 (strsC FL)) (.slice a nf c) ∧ Below w'.heap.size w' w'') := fun w' hw => by
            have h := r_Free x.body w' _ hf2 (hbody.under hw) (by omega)
            rw [hFL, hnf] at h
            exact h.mono fun e w'' ⟨a, c, h1, h2, _, h3⟩ => ⟨a, c, h1, h2, h3⟩
          have HTX : Hid (∀ (w' : World) (aa ab : Option Addr) (ca cb : Nat), InC (fun _ => True) w' (.s nf 1 (strsC FL)) (.slice aa nf ca) → InC (fun _ => True) w' (.s nf 1 (strsC FL)) (.slice ab nf cb) → Calls Try.prog 33 #[.slice aa nf ca, .slice ab nf cb] w' fun e w'' => e = .returned (.bool true) ∧ Below w'.heap.size w' w'') := fun w' aa ab ca cb h1 h2 => by
            rw [← hnf] at h1 h2 ⊢
            exact same_texts FL _ _ aa ab _ _ ca cb w' h1 h2
          have T1 : ∀ W, Sem.run Try.prog (Instr.indexAt 26 (.slice (some ⟨g, o, none⟩) nb c2) (.int .i64 (i : Int))) W = .ok (.pointer (some ⟨g, o + i * 8, none⟩)) W := fun W => by go_simp
          have hS0 := hbx.cell 1
          have HK5 : Hid (∀ w', Below wr.heap.size wr w' → (Below wr.heap.size wr w' ∧ w'.cell? ⟨pb, 1, none⟩ = some (.slice (some ⟨g, o, none⟩) nb c2) ∧ w'.cell? ⟨g, o + i * 8 + 2, none⟩ = some (.int .i64 xk) ∧ w'.cell? ⟨g, o + i * 8 + 2 + 1, none⟩ = some (.int .i64 xq) ∧ w'.cell? ⟨g, o + i * 8 + 2 + 2, none⟩ = some (.string xz) ∧ w'.cell? ⟨g, o + i * 8 + 2 + 3, none⟩ = some (.int .i64 xn) ∧ w'.cell? ⟨g, o + i * 8 + 2 + 4, none⟩ = some (.slice xa1 xm1 xd1) ∧ w'.cell? ⟨g, o + i * 8 + 2 + 5, none⟩ = some (.slice xa2 xm2 xd2))) := fun w' hb =>
            ⟨hb, six_belowF hb hyl hS0, six_belowF hb hg q2, six_belowF hb hg q3, six_belowF hb hg q4, six_belowF hb hg q5, six_belowF hb hg q6, six_belowF hb hg q7⟩
          clear hx hf1 hf2 hf3 hI9 hbody hFL hnf hS0 q2 q3 q4 q5 q6 q7 hbx
          go_upto_region 7 with fail
          go_region_held3 (fun w' => Below wr.heap.size wr w' ∧ w'.cell? ⟨pb, 1, none⟩ = some (.slice (some ⟨g, o, none⟩) nb c2) ∧ w'.cell? ⟨g, o + i * 8 + 2, none⟩ = some (.int .i64 xk) ∧ w'.cell? ⟨g, o + i * 8 + 2 + 1, none⟩ = some (.int .i64 xq) ∧ w'.cell? ⟨g, o + i * 8 + 2 + 2, none⟩ = some (.string xz) ∧ w'.cell? ⟨g, o + i * 8 + 2 + 3, none⟩ = some (.int .i64 xn) ∧ w'.cell? ⟨g, o + i * 8 + 2 + 4, none⟩ = some (.slice xa1 xm1 xd1) ∧ w'.cell? ⟨g, o + i * 8 + 2 + 5, none⟩ = some (.slice xa2 xm2 xd2))
            (first
              | exact HK5.out _ (Below.refl _ _).drew
              | exact HK5.out _ (below_next (And.left (by assumption)) hbt (Nat.le_refl _))
              | exact HK5.out _ (below_next (And.left (by assumption)) hbb (Nat.le_refl _))
              | exact HK5.out _ (below_next (And.left (by assumption)) hba (Nat.le_refl _)))
            (first
              | (go_at_call 34; (with_reducible refine (HFA.out _ (And.left (by assumption))).mono ?_); rintro e wa ⟨aa, ca, rfl, ha, hba⟩)
              | (go_at_call 35; (with_reducible refine (HFB.out _ (And.left (by assumption))).mono ?_); rintro e wb ⟨ab, cb, rfl, hb, hbb⟩)
              | (go_at_call 33; (with_reducible refine (HTX.out _ _ _ _ _ (ha.under hbb) hb).mono ?_); rintro e wt ⟨rfl, hbt⟩)
              | (go_at_call 33; (with_reducible refine (HTX.out _ _ _ _ _ ha (hb.under hba)).mono ?_); rintro e wt ⟨rfl, hbt⟩))
          all_goals (
            have HB9 : Hid (Below wr.heap.size wr wt) := Lib.hid (And.left (by assumption))
            have HB8 := Lib.hid (HR.out.trans (HB9.out.mono HR.out.size))
            clear ha hb hba hbb hbt
            go_wp2_with fail
            go_roundw
            case rel => exact ⟨i + 1, by omega, by go_num, HB8⟩
            case measure => (simp [intOf]; omega))
        · have hge : ¬ ((i : Int) < (nb : Int)) := by omega
          obtain ⟨RS, hRS⟩ : ∃ RS, graphL BS = RS := ⟨_, rfl⟩
          have hRL : RS.length = nb := by rw [← hRS]; simp [graphL, HNB.out]
          have hI9 := HI.out.under HR.out
          have HGA : Hid (∀ w' : World, Below wr.heap.size wr w' → Calls Try.prog 37 #[.slice a2 nb c2] w' fun e w'' => ∃ a c, e = .returned (.slice a nb c) ∧ InC (fun _ => True) w'' (.s nb 1 (RS.map rowCl)) (.slice a nb c) ∧ Below w'.heap.size w' w'') := fun w' hw => by
            have h := f_Graph w' BS a2 nb c2 HNB.out hnbl (fun b hb => ⟨(HFIT.out b hb).1, (HFIT.out b hb).2.1, by have := (HFIT.out b hb).2.2; omega⟩) (by rw [HNB.out]; exact hI9.under hw)
            rw [hRS, hRL] at h
            exact h.mono fun e w'' ⟨a, c, h1, h2, h3⟩ => ⟨a, c, h1, h2.mono fun _ _ _ => trivial, h3⟩
          have HGB : Hid (∀ w' : World, Below wr.heap.size wr w' → Calls Try.prog 38 #[.slice a2 nb c2] w' fun e w'' => ∃ a c, e = .returned (.slice a nb c) ∧ InC (fun _ => True) w'' (.s nb 1 (RS.map rowCl)) (.slice a nb c) ∧ Below w'.heap.size w' w'') := fun w' hw => by
            have h := r_Graph w' BS a2 nb c2 HNB.out hnbl (fun b hb => ⟨(HFIT.out b hb).1, (HFIT.out b hb).2.1, by have := (HFIT.out b hb).2.2; omega⟩) (by rw [HNB.out]; exact hI9.under hw)
            rw [hRS, hRL] at h
            exact h.mono fun e w'' ⟨a, c, h1, h2, h3⟩ => ⟨a, c, h1, h2.mono fun _ _ _ => trivial, h3⟩
          have HSM : Hid (∀ (w' : World) (aa ab : Option Addr) (ca cb : Nat), InC (fun _ => True) w' (.s nb 1 (RS.map rowCl)) (.slice aa nb ca) → InC (fun _ => True) w' (.s nb 1 (RS.map rowCl)) (.slice ab nb cb) → Calls Try.prog 36 #[.slice aa nb ca, .slice ab nb cb] w' fun e w'' => e = .returned (.bool true) ∧ Below w'.heap.size w' w'') := fun w' aa ab ca cb h1 h2 => r_Same w' RS aa ab nb ca cb (by rw [hRL]; exact h1) (by rw [hRL]; exact h2)
          have hS0 := hbx.cell 1
          have HK5 : Hid (∀ w', Below wr.heap.size wr w' → (Below wr.heap.size wr w' ∧ w'.cell? ⟨pb, 1, none⟩ = some (.slice a2 nb c2))) := fun w' hb => ⟨hb, six_belowF hb hyl hS0⟩
          clear hRS hRL hI9 hS0 hbx
          go_upto_region 9 with fail
          go_region_held3 (fun w' => Below wr.heap.size wr w' ∧ w'.cell? ⟨pb, 1, none⟩ = some (.slice a2 nb c2))
            (first
              | exact HK5.out _ (Below.refl _ _).drew
              | exact HK5.out _ (below_next (And.left (by assumption)) hbw (Nat.le_refl _))
              | exact HK5.out _ (below_next (And.left (by assumption)) hbt (Nat.le_refl _))
              | exact HK5.out _ (below_next (And.left (by assumption)) hbb (Nat.le_refl _))
              | exact HK5.out _ (below_next (And.left (by assumption)) hba (Nat.le_refl _)))
            (first
              | (go_at_call 37; (with_reducible refine (HGA.out _ (And.left (by assumption))).mono ?_); rintro e wa ⟨aa, ca, rfl, ha, hba⟩)
              | (go_at_call 38; (with_reducible refine (HGB.out _ (And.left (by assumption))).mono ?_); rintro e wb ⟨ab, cb, rfl, hb, hbb⟩)
              | (go_at_call 36; (with_reducible refine (HSM.out _ _ _ _ _ (ha.under hbb) hb).mono ?_); rintro e wt ⟨rfl, hbt⟩)
              | (go_at_call 36; (with_reducible refine (HSM.out _ _ _ _ _ ha (hb.under hba)).mono ?_); rintro e wt ⟨rfl, hbt⟩)
              | (go_at_call 32; (with_reducible refine (H4.out _).mono ?_); rintro e wz ⟨rfl, hbw⟩))
          all_goals (
            have HB9 : Hid (Below wr.heap.size wr wz) := Lib.hid (And.left (by assumption))
            have HB8 := Lib.hid (HR.out.trans (HB9.out.mono HR.out.size))
            clear ha hb hba hbb hbt hbw
            go_wp2_with fail
            go_ret
            exact ⟨rfl, HB.out.trans (HB8.out.mono HB.out.size)⟩)

end Go.Proofs.Ytgkeblpjmfdhkaa
