/- Package term: nodes, Size; the document's Size. -/
import Derived.Test.YtpfcpeljfgmjgaaDoorKmz
namespace Go.Proofs.YtpfcpeljfgmjgaaDoor
open Go.RowKit
set_option linter.unusedVariables false
set_option linter.unusedSimpArgs false

def NodB (x : Ty) : Prop := ∀ (most : Nat) (S : Nat → Prop) (u : Value) (w : World), 1 ≤ most → most ≤ 1000 → IsV S w (tyC x) u →
  Calls Tryd.prog 52 #[u, .int .i64 (most : Int)] w fun e w' => e = .returned (.int .i64 ((min x.nn most : Nat) : Int)) ∧ Below w.heap.size w w'
theorem nns_snoc {l : List Ty} {i : Nat} {x : Ty} (h : l[i]? = some x) : Ty.nns (l.take (i + 1)) = Ty.nns (l.take i) + x.nn := by
  rw [take_snoc' h, Ty.nns_app]; simp [Ty.nns]
set_option maxRecDepth 100000 in
set_option maxHeartbeats 4000000 in
theorem nod_step (k n : Int) (s : By) (kids : List Ty) (hX : ∀ x ∈ kids, NodB x) : NodB (.mk k n s kids) := by
  intro most S u w hp hq hv
  obtain ⟨a, c, rfl, hk⟩ := hv.ty
  have hLm := hk.max_len
  obtain ⟨z, hz⟩ : ∃ z, strB s = z := ⟨_, rfl⟩
  obtain ⟨m, hm⟩ : ∃ m, kids.length = m := ⟨_, rfl⟩
  rw [tysC_eq] at hk
  have HK := Lib.hid hk
  have HM := Lib.hid hm
  have HX := Lib.hid hX
  have hW0 : Below w.heap.size w (w.alloc (.cells #[.int .i64 k, .int .i64 n, .string z, .slice a m c] 47)) := (Below.refl _ w).alloc (Nat.le_refl _) _
  have hbx := Box.new w 47 [.int .i64 k, .int .i64 n, .string z, .slice a m c]
  obtain ⟨R, hR⟩ : ∃ R : Nat, min (Ty.mk k n s kids).nn most = R := ⟨_, rfl⟩
  rw [hR]
  simp only [Ty.nn] at hR
  have HR := Lib.hid hR
  rw [hm] at HK hLm
  rw [hz, hm]
  clear hv hk hX hz hm hR
  obtain ⟨W0, hW⟩ : ∃ W0, w.alloc (.cells #[.int .i64 k, .int .i64 n, .string z, .slice a m c] 47) = W0 := ⟨_, rfl⟩
  have HW : Hid (Below w.heap.size w W0) := hW ▸ hW0
  have HBX : Hid (Box W0 w.heap.size 47 [.int .i64 k, .int .i64 n, .string z, .slice a m c]) := hW ▸ hbx
  clear hW0 hbx
  obtain ⟨_, _, _, _⟩ := four_cells HBX.out
  have hbl := HBX.out.lt
  go_enter Tryd.func52, Tryd.ntmps52
  go_upto_region 2 with fail
  try rw [hW]
  clear hW
  go_wp2_with fail
  clear HBX
  go_loopw [5, 11] (fun nv iv wr => ∃ i t : Nat, i ≤ m ∧ iv = .int .i64 (i : Int) ∧ nv = .int .i64 (t : Int) ∧ Hid (t = min (1 + Ty.nns (kids.take i)) most) ∧ t ≤ most ∧ Hid (Below w.heap.size w wr)) (fun _ iv _ => m - (intOf iv).toNat)
  case atStart => exact ⟨0, 1, Nat.zero_le _, rfl, rfl, by show _ = _; simp [Ty.nns]; omega, hp, HW⟩
  case round =>
    obtain ⟨i, t, hi, rfl, rfl, HT, ht, HB⟩ := hrel
    by_cases hlt : i < m
    · obtain ⟨x, hx⟩ : ∃ x, kids[i]? = some x := ⟨_, List.getElem?_eq_getElem (by rw [HM.out]; exact hlt)⟩
      have hK9 := HK.out
      rw [← HM.out] at hK9
      obtain ⟨g, off, k', n', s', a', m', c', rfl, hgr, hgw, hxv, f1, f2, f3, f4, q0, q1, q2, q3⟩ := kid_cells hK9 hx HB.out
      clear f1 f2 f3 f4
      have hxm := List.mem_of_getElem? hx
      obtain ⟨z', hz'⟩ : ∃ z', strB s' = z' := ⟨_, rfl⟩
      rw [hz'] at hxv q2
      have HTK := Lib.hid (nns_snoc hx)
      have hx1 := x.nn_pos
      have T1 : ∀ W, Sem.run Tryd.prog (Instr.indexAt 45 (.slice (some ⟨g, off, none⟩) m c) (.int .i64 (i : Int))) W = .ok (.pointer (some ⟨g, off + i * 4, none⟩)) W := fun W => by go_simp
      by_cases he : t = most
      · have e1 : ((t : Int) == (most : Int)) = true := by simp [he]
        have HE : Hid (t = R) := by
          show _ = _
          rw [← HR.out, he]
          have h1 := HT.out
          have h2 := Ty.nns_take kids i
          omega
        clear hx hxv hz' hK9 he hx1
        go_wp2_with fail
        go_ret
        refine ⟨?_, HB.out.alloc HB.out.size _⟩
        rw [HE.out]; rfl
      · have e1 : ((t : Int) == (most : Int)) = false := beq_false_of_ne (by omega)
        have hlt2 : t < most := by omega
        have HC : Hid (∀ W', Below wr.heap.size wr W' → Calls Tryd.prog 52 #[.agg #[.int .i64 k', .int .i64 n', .string z', .slice a' m' c'], .int .i64 ((most - t : Nat) : Int)] W' fun e w' => e = .returned (.int .i64 ((min x.nn (most - t) : Nat) : Int)) ∧ Below W'.heap.size W' w') := fun W' hW' => HX.out x hxm (most - t) S _ W' (by omega) (by omega) (hxv.under hW')
        rw [show ((most - t : Nat) : Int) = (most : Int) - (t : Int) from by omega] at HC
        obtain ⟨v, hv⟩ : ∃ v : Nat, min x.nn (most - t) = v := ⟨_, rfl⟩
        have HV : Hid (t + v = min (1 + Ty.nns (kids.take (i + 1))) most) := by
          show _ = _
          have h1 := HT.out
          have h2 := HTK.out
          omega
        have hv1 : t + v ≤ most := by omega
        rw [hv] at HC
        clear hx hxv hz' hK9 hv he hx1
        go_wp2_with (go_at_call 52; (with_reducible refine (HC.out _ ((Below.refl _ wr).alloc (Nat.le_refl _) _)).mono ?_); rintro e w2 ⟨rfl, hb2⟩; have HB2 := Lib.hid (HB.out.trans ((((Below.refl _ wr).alloc (Nat.le_refl _) _).trans (hb2.mono (by simp))).mono HB.out.size)); clear hb2)
        go_roundw
        case rel => exact ⟨i + 1, t + v, by omega, by go_num, by go_num, HV, hv1, HB2⟩
        case measure => simp [intOf]; omega
    · have him : i = m := by omega
      subst him
      have HE : Hid (t = R) := by
        show _ = _
        rw [← HR.out, HT.out, List.take_of_length_le (by rw [HM.out]; exact Nat.le_refl _)]
      go_wp2_with fail
      go_ret
      exact ⟨by rw [HE.out]; rfl, HB.out⟩
theorem nod_all (x : Ty) : NodB x := Ty.ind (P := NodB) (fun k n s kids ih => nod_step k n s kids ih) x
/-- Size. -/
theorem ty_Size (x : Ty) (S : Nat → Prop) (u : Value) (w : World) (hv : IsV S w (tyC x) u) :
    Calls Tryd.prog 22 #[u] w fun e w' => e = .returned (.int .i64 ((min x.nn 401 : Nat) : Int)) ∧ Below w.heap.size w w' := by
  have HC : Hid (∀ W', Below w.heap.size w W' → Calls Tryd.prog 52 #[u, .int .i64 401] W' fun e w' => e = .returned (.int .i64 ((min x.nn 401 : Nat) : Int)) ∧ Below W'.heap.size W' w') := fun W' hW' => nod_all x 401 S u W' (by omega) (by omega) (hv.under hW')
  obtain ⟨v, hv9⟩ : ∃ v, min x.nn 401 = v := ⟨_, rfl⟩
  rw [hv9] at HC ⊢
  obtain ⟨k, n, s, kids⟩ := x
  obtain ⟨a, c, rfl, hk⟩ := hv.ty
  obtain ⟨z, hz⟩ : ∃ z, strB s = z := ⟨_, rfl⟩
  obtain ⟨m, hm⟩ : ∃ m, kids.length = m := ⟨_, rfl⟩
  rw [hz, hm] at HC
  rw [hz, hm]
  clear hv hk hz hm hv9
  go_enter Tryd.func22, Tryd.ntmps22
  go_wp2_with (go_at_call 52; (with_reducible refine (HC.out _ ((Below.refl _ w).alloc (Nat.le_refl _) _)).mono ?_); rintro e w2 ⟨rfl, hb2⟩; have HB2 := Lib.hid (((Below.refl _ w).alloc (Nat.le_refl _) _).trans (hb2.mono (by simp))); clear hb2)
  go_ret
  exact ⟨rfl, HB2.out⟩

/-! ### The document's -/
def RSz (x : Ty) : Prop := ∀ (S : Nat → Prop) (u : Value) (w : World), IsV S w (tyC x) u →
  Calls Tryd.prog 23 #[u] w fun e w' => e = .returned (.int .i64 ((min x.nn 401 : Nat) : Int)) ∧ Below w.heap.size w w'
set_option maxRecDepth 100000 in
set_option maxHeartbeats 4000000 in
theorem rsz_step (k n : Int) (s : By) (kids : List Ty) (hX : ∀ x ∈ kids, RSz x) : RSz (.mk k n s kids) := by
  intro S u w hv
  obtain ⟨a, c, rfl, hk⟩ := hv.ty
  have hLm := hk.max_len
  obtain ⟨z, hz⟩ : ∃ z, strB s = z := ⟨_, rfl⟩
  obtain ⟨m, hm⟩ : ∃ m, kids.length = m := ⟨_, rfl⟩
  rw [tysC_eq] at hk
  have HK := Lib.hid hk
  have HM := Lib.hid hm
  have HX := Lib.hid hX
  have hW0 : Below w.heap.size w (w.alloc (.cells #[.int .i64 k, .int .i64 n, .string z, .slice a m c] 47)) := (Below.refl _ w).alloc (Nat.le_refl _) _
  have hbx := Box.new w 47 [.int .i64 k, .int .i64 n, .string z, .slice a m c]
  obtain ⟨R, hR⟩ : ∃ R : Nat, min (Ty.mk k n s kids).nn 401 = R := ⟨_, rfl⟩
  rw [hR]
  simp only [Ty.nn] at hR
  have HR := Lib.hid hR
  rw [hm] at HK hLm
  rw [hz, hm]
  clear hv hk hX hz hm hR
  obtain ⟨W0, hW⟩ : ∃ W0, w.alloc (.cells #[.int .i64 k, .int .i64 n, .string z, .slice a m c] 47) = W0 := ⟨_, rfl⟩
  have HW : Hid (Below w.heap.size w W0) := hW ▸ hW0
  have HBX : Hid (Box W0 w.heap.size 47 [.int .i64 k, .int .i64 n, .string z, .slice a m c]) := hW ▸ hbx
  clear hW0 hbx
  obtain ⟨_, _, _, _⟩ := four_cells HBX.out
  have hbl := HBX.out.lt
  go_enter Tryd.func23, Tryd.ntmps23
  go_upto_region 2 with fail
  try rw [hW]
  clear hW
  go_wp2_with fail
  go_loopw [3, 4] (fun nv iv wr => ∃ i t : Nat, i ≤ m ∧ iv = .int .i64 (i : Int) ∧ nv = .int .i64 (t : Int) ∧ Hid (min t 401 = min (1 + Ty.nns (kids.take i)) 401) ∧ t ≤ 1000 ∧ Hid (Below W0.heap.size W0 wr)) (fun _ iv _ => m - (intOf iv).toNat)
  case atStart => exact ⟨0, 1, Nat.zero_le _, rfl, rfl, by show _ = _; simp [Ty.nns], by omega, Lib.hid (Below.refl _ _)⟩
  case round =>
    obtain ⟨i, t, hi, rfl, rfl, HT, ht, HB⟩ := hrel
    have hby := HBX.out.below HB.out
    obtain ⟨_, _, _, _⟩ := four_cells hby
    have hyl := hby.lt
    have hGw := HW.out.trans (HB.out.mono HW.out.size)
    by_cases hlt : i < m
    · have e5 : decide ((i : Int) < (m : Int)) = true := decide_eq_true (by omega)
      obtain ⟨x, hx⟩ : ∃ x, kids[i]? = some x := ⟨_, List.getElem?_eq_getElem (by rw [HM.out]; exact hlt)⟩
      by_cases h4 : t ≤ 400
      · have e6 : decide ((t : Int) ≤ 400) = true := decide_eq_true (by omega)
        have hK9 := HK.out
        rw [← HM.out] at hK9
        obtain ⟨g, off, k', n', s', a', m', c', rfl, hgr, hgw, hxv, f1, f2, f3, f4, q0, q1, q2, q3⟩ := kid_cells hK9 hx hGw
        clear f1 f2 f3 f4
        have hxm := List.mem_of_getElem? hx
        obtain ⟨z', hz'⟩ : ∃ z', strB s' = z' := ⟨_, rfl⟩
        rw [hz'] at hxv q2
        have HTK := Lib.hid (nns_snoc hx)
        have T1 : ∀ W, Sem.run Tryd.prog (Instr.indexAt 45 (.slice (some ⟨g, off, none⟩) m c) (.int .i64 (i : Int))) W = .ok (.pointer (some ⟨g, off + i * 4, none⟩)) W := fun W => by go_simp
        have HC := Lib.hid (HX.out x hxm S _ wr hxv)
        obtain ⟨v, hv⟩ : ∃ v : Nat, min x.nn 401 = v := ⟨_, rfl⟩
        have HV : Hid (min (t + v) 401 = min (1 + Ty.nns (kids.take (i + 1))) 401) := by
          show _ = _
          have h1 := HT.out
          have h2 := HTK.out
          omega
        have hv1 : t + v ≤ 1000 := by omega
        rw [hv] at HC
        clear hx hxv hz' hK9 hv hby hGw
        go_wp2_with (go_at_call 23; (with_reducible refine (HC.out).mono ?_); rintro e w2 ⟨rfl, hb2⟩; have HB2 := Lib.hid (HB.out.trans (hb2.mono HB.out.size)); clear hb2)
        go_roundw
        case rel => exact ⟨i + 1, t + v, by omega, by go_num, by go_num, HV, hv1, HB2⟩
        case measure => simp [intOf]; omega
      · have e6 : decide ((t : Int) ≤ 400) = false := decide_eq_false (by omega)
        have e7 : (if (t : Int) < 401 then (t : Int) else 401) = 401 := if_neg (by omega)
        have e8 : (if (401 : Int) < (t : Int) then (401 : Int) else t) = 401 := by split <;> omega
        have HE : Hid (R = 401) := by
          show _ = _
          rw [← HR.out]
          have h1 := HT.out
          have h2 := Ty.nns_take kids i
          omega
        clear hx hby h4
        go_wp2_with fail
        go_ret
        exact ⟨by rw [HE.out]; rfl, hGw⟩
    · have him : i = m := by omega
      subst him
      have e5 : decide ((i : Int) < (i : Int)) = false := decide_eq_false (by omega)
      have e7 : (if (t : Int) < 401 then (t : Int) else 401) = (R : Int) := by
        have h1 := HT.out
        rw [List.take_of_length_le (by rw [HM.out]; exact Nat.le_refl _), HR.out] at h1
        split <;> omega
      have e8 : (if (401 : Int) < (t : Int) then (401 : Int) else t) = (R : Int) := by
        have h1 := HT.out
        rw [List.take_of_length_le (by rw [HM.out]; exact Nat.le_refl _), HR.out] at h1
        split <;> omega
      clear hby
      go_wp2_with fail
      go_ret
      exact ⟨rfl, hGw⟩
theorem r_Size (x : Ty) : RSz x := Ty.ind (P := RSz) (fun k n s kids ih => rsz_step k n s kids ih) x

end Go.Proofs.YtpfcpeljfgmjgaaDoor
