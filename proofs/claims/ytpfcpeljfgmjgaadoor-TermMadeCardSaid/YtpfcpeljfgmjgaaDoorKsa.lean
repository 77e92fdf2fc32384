/- Types held against one another: the document's SameType, package term's Same. -/
import Derived.Test.YtpfcpeljfgmjgaaDoorKmz
namespace Go.Proofs.YtpfcpeljfgmjgaaDoor
open Go.RowKit
set_option linter.unusedVariables false
set_option linter.unusedSimpArgs false

open Classical in
/-- Whether two are one. -/
noncomputable def eqD {α : Type} (x y : α) : Bool := decide (x = y)
theorem eqD_true {α : Type} {x y : α} (h : x = y) : eqD x y = true := by unfold eqD; simp [h]
theorem eqD_false {α : Type} {x y : α} (h : x ≠ y) : eqD x y = false := by unfold eqD; simp [h]
theorem eqD_iff {α : Type} {x y : α} : eqD x y = true ↔ x = y := by unfold eqD; simp
/-- It tells whether they are one. -/
def Tells2 (f : Nat) (x : Ty) : Prop := ∀ (y : Ty) (S S' : Nat → Prop) (v v' : Value) (w : World), IsV S w (tyC x) v → IsV S' w (tyC y) v' →
  Calls Tryd.prog f #[v, v'] w fun e w' => e = .returned (.bool (eqD x y)) ∧ Below w.heap.size w w'
theorem eqD_mk {k n : Int} {s : By} {l l' : List Ty} : eqD (Ty.mk k n s l) (Ty.mk k n s l') = eqD l l' := by
  by_cases h : l = l'
  · rw [eqD_true h, eqD_true (by rw [h])]
  · rw [eqD_false h, eqD_false (fun e => h (by injection e))]
theorem take_both {l l' : List Ty} {i : Nat} {x y : Ty} (hx : l[i]? = some x) (hy : l'[i]? = some y) (h : l.take i = l'.take i) (e : x = y) : l.take (i + 1) = l'.take (i + 1) := by
  rw [take_snoc' hx, take_snoc' hy, h, e]
set_option maxRecDepth 100000 in
set_option maxHeartbeats 4000000 in
theorem r_SameTypes (l : List Ty) (hX : ∀ x ∈ l, Tells2 25 x) (l' : List Ty) (S S' : Nat → Prop) (a a' : Option Addr) (m m' c c' : Nat) (w : World) (hk : InC S w (.s l.length 4 (tysC l)) (.slice a m c)) (hk' : InC S' w (.s l'.length 4 (tysC l')) (.slice a' m' c')) :
    Calls Tryd.prog 54 #[.slice a m c, .slice a' m' c'] w fun e w' => e = .returned (.bool (eqD l l')) ∧ Below w.heap.size w w' := by
  obtain ⟨R, hR⟩ : ∃ R, eqD l l' = R := ⟨_, rfl⟩
  have HR := Lib.hid hR
  rw [hR]
  clear hR
  have hLm := hk.max_len
  have hLm' := hk'.max_len
  have e1 := hk.at_.1
  have e2 := hk'.at_.1
  rw [← e1] at hLm
  rw [← e2] at hLm'
  rw [tysC_eq] at hk hk'
  by_cases hne : m = m'
  · subst hne
    have HK := Lib.hid hk
    have HK' := Lib.hid hk'
    have HM := Lib.hid e1
    have HM' := Lib.hid e2
    have HX := Lib.hid hX
    clear hk hk' e1 e2 hX
    go_enter Tryd.func54, Tryd.ntmps54
    go_wp2_with fail
    go_loopw [5] (fun iv wr => ∃ i : Nat, i ≤ m ∧ iv = .int .i64 (i : Int) ∧ Hid (l.take i = l'.take i) ∧ Hid (Below w.heap.size w wr)) (fun iv _ => m - (intOf iv).toNat)
    case atStart => exact ⟨0, Nat.zero_le _, rfl, by simp [Hid], Below.refl _ _⟩
    case round =>
      obtain ⟨i, hi, rfl, HE, HB⟩ := hrel
      by_cases hlt : i < m
      · obtain ⟨x, hx⟩ : ∃ x, l[i]? = some x := ⟨_, List.getElem?_eq_getElem (by rw [← HM.out]; exact hlt)⟩
        obtain ⟨y, hy⟩ : ∃ y, l'[i]? = some y := ⟨_, List.getElem?_eq_getElem (by rw [← HM'.out]; exact hlt)⟩
        obtain ⟨g, off, k0, n0, s0, a0, m0, c0, rfl, hg1, hg2, hxv, f1, f2, f3, f4, q0, q1, q2, q3⟩ := kid_cells HK.out hx HB.out
        clear f1 f2 f3 f4
        obtain ⟨g', off', k9, n9, s9, a9, m9, c9, rfl, hg3, hg4, hyv, f1, f2, f3, f4, p0, p1, p2, p3⟩ := kid_cells HK'.out hy HB.out
        clear f1 f2 f3 f4
        obtain ⟨z0, hz0⟩ : ∃ z, strB s0 = z := ⟨_, rfl⟩
        obtain ⟨z9, hz9⟩ : ∃ z, strB s9 = z := ⟨_, rfl⟩
        rw [hz0] at hxv q2
        rw [hz9] at hyv p2
        have hxm := List.mem_of_getElem? hx
        have HT : Hid ((eqD x y = true → l.take (i + 1) = l'.take (i + 1)) ∧ (eqD x y = false → l ≠ l')) :=
          ⟨fun h => take_both hx hy HE.out (eqD_iff.1 h), fun h e => by
            rw [e, hy] at hx
            rw [eqD_true (Option.some.inj hx).symm] at h; cases h⟩
        have HC : Hid (∀ W', Below wr.heap.size wr W' → Calls Tryd.prog 25 #[.agg #[.int .i64 k0, .int .i64 n0, .string z0, .slice a0 m0 c0], .agg #[.int .i64 k9, .int .i64 n9, .string z9, .slice a9 m9 c9]] W' fun e w' => e = .returned (.bool (eqD x y)) ∧ Below W'.heap.size W' w') := fun W' hW' => HX.out x hxm y S S' _ _ W' (hxv.under hW') (hyv.under hW')
        obtain ⟨b, hb⟩ : ∃ b, eqD x y = b := ⟨_, rfl⟩
        rw [hb] at HC HT
        clear hx hy hxv hyv hz0 hz9 hxm hb
        go_upto_region 6 with fail
        go_cut [26] (fun v26 wx => v26 = .bool (!b) ∧ Hid (Below w.heap.size w wx))
        case first =>
          go_region_with (go_at_call 25; (with_reducible refine (HC.out _ (Below.refl _ _).drew).mono ?_); rintro e1 wz ⟨rfl, hbz⟩; have HBZ := Lib.hid hbz; clear hbz)
          all_goals go_wp2_with fail
          all_goals go_meet
          all_goals exact ⟨rfl, HB.out.drew.trans (HBZ.out.mono HB.out.size)⟩
        case rest =>
          obtain ⟨rfl, HB2⟩ := hcut
          clear HC HB
          cases b with
          | true =>
            have HQ := Lib.hid (HT.out.1 rfl)
            clear HT
            go_wp2_with fail
            go_roundw
            case rel => exact ⟨i + 1, by omega, by go_num, HQ, HB2⟩
            case measure => simp [intOf]; omega
          | false =>
            go_wp2_with fail
            go_ret
            exact ⟨ret_bool (HR.out ▸ (eqD_false (HT.out.2 (by simp))).symm), HB2.out⟩
      · have him : i = m := by omega
        subst him
        go_wp2_with fail
        go_ret
        refine ⟨ret_bool (HR.out ▸ (eqD_true ?_).symm), HB.out⟩
        have := HE.out
        rwa [List.take_of_length_le (by rw [← HM.out]; exact Nat.le_refl _), List.take_of_length_le (by rw [← HM'.out]; exact Nat.le_refl _)] at this
  · have hd : ((m : Int) != (m' : Int)) = true := by simp; omega
    have HN : Hid (l ≠ l') := fun e => by subst e; omega
    clear hk hk' e1 e2 hX hne
    go_enter Tryd.func54, Tryd.ntmps54
    go_wp2_with fail
    go_ret
    exact ⟨ret_bool (HR.out ▸ (eqD_false HN.out).symm), Below.refl _ _⟩
set_option maxRecDepth 100000 in
set_option maxHeartbeats 4000000 in
theorem r_same_step (k n : Int) (s : By) (kids : List Ty) (hX : ∀ x ∈ kids, Tells2 25 x) : Tells2 25 (.mk k n s kids) := by
  intro y S S' v v' w hv hv'
  obtain ⟨k', n', s', kids'⟩ := y
  obtain ⟨a, c, rfl, hk⟩ := hv.ty
  obtain ⟨a', c', rfl, hk'⟩ := hv'.ty
  have HC : Hid (∀ w', Below w.heap.size w w' → Calls Tryd.prog 54 #[.slice a kids.length c, .slice a' kids'.length c'] w' fun e w'' => e = .returned (.bool (eqD kids kids')) ∧ Below w'.heap.size w' w'') := fun w' hw' => r_SameTypes kids hX kids' S S' a a' _ _ c c' w' (hk.under hw') (hk'.under hw')
  obtain ⟨m, hm⟩ : ∃ m, kids.length = m := ⟨_, rfl⟩
  obtain ⟨m', hm'⟩ : ∃ m, kids'.length = m := ⟨_, rfl⟩
  rw [hm, hm'] at HC
  rw [hm, hm']
  clear hv hv' hk hk' hX hm hm'
  by_cases h1 : k = k'
  · subst h1
    by_cases h2 : n = n'
    · subst h2
      by_cases h3 : s = s'
      · subst h3
        obtain ⟨z, hz⟩ : ∃ z, strB s = z := ⟨_, rfl⟩
        rw [hz]
        rw [eqD_mk]
        obtain ⟨b, hb⟩ : ∃ b, eqD kids kids' = b := ⟨_, rfl⟩
        rw [hb] at HC ⊢
        clear hz hb
        go_enter Tryd.func25, Tryd.ntmps25
        go_wp2_with (go_at_call 54; (with_reducible refine (HC.out _ ?_).mono ?_); (exact ((Below.refl _ w).alloc (Nat.le_refl _) _).alloc (by simp) _); rintro e1 wz ⟨rfl, hbz⟩; have HBZ := Lib.hid hbz; clear hbz)
        go_ret
        exact ⟨rfl, (((Below.refl _ w).alloc (Nat.le_refl _) _).alloc (by simp) _).trans (HBZ.out.mono (by simp; omega))⟩
      · obtain ⟨z, hz⟩ : ∃ z, strB s = z := ⟨_, rfl⟩
        obtain ⟨z', hz'⟩ : ∃ z, strB s' = z := ⟨_, rfl⟩
        have e3 : (z.toList == z'.toList) = false := by
          rw [← hz, ← hz']; simp [strB, ByteArray.toList_eq]; exact h3
        rw [eqD_false (show Ty.mk k n s kids ≠ Ty.mk k n s' kids' from fun e => h3 (by injection e))]
        rw [hz, hz']
        clear hz hz' h3 HC
        go_enter Tryd.func25, Tryd.ntmps25
        go_wp2_with fail
        go_ret
        exact ⟨rfl, (((Below.refl _ w).alloc (Nat.le_refl _) _).alloc (by simp) _)⟩
    · have e2 : (n == n') = false := by simpa using h2
      rw [eqD_false (show Ty.mk k n s kids ≠ Ty.mk k n' s' kids' from fun e => h2 (by injection e))]
      obtain ⟨z, hz⟩ : ∃ z, strB s = z := ⟨_, rfl⟩
      obtain ⟨z', hz'⟩ : ∃ z, strB s' = z := ⟨_, rfl⟩
      rw [hz, hz']
      clear h2 HC hz hz'
      go_enter Tryd.func25, Tryd.ntmps25
      go_wp2_with fail
      go_ret
      exact ⟨rfl, (((Below.refl _ w).alloc (Nat.le_refl _) _).alloc (by simp) _)⟩
  · have e1 : (k == k') = false := by simpa using h1
    rw [eqD_false (show Ty.mk k n s kids ≠ Ty.mk k' n' s' kids' from fun e => h1 (by injection e))]
    obtain ⟨z, hz⟩ : ∃ z, strB s = z := ⟨_, rfl⟩
    obtain ⟨z', hz'⟩ : ∃ z, strB s' = z := ⟨_, rfl⟩
    rw [hz, hz']
    clear h1 HC hz hz'
    go_enter Tryd.func25, Tryd.ntmps25
    go_wp2_with fail
    go_ret
    exact ⟨rfl, (((Below.refl _ w).alloc (Nat.le_refl _) _).alloc (by simp) _)⟩
/-- The document's SameType. -/
theorem r_SameType (x : Ty) : Tells2 25 x := Ty.ind (P := Tells2 25) (fun k n s kids ih => r_same_step k n s kids ih) x

/-! ### Package term's -/
set_option maxRecDepth 100000 in
set_option maxHeartbeats 4000000 in
theorem ty_EqualFunc (l : List Ty) (hX : ∀ x ∈ l, Tells2 24 x) (l' : List Ty) (S S' : Nat → Prop) (a a' : Option Addr) (m m' c c' : Nat) (w : World) (hk : InC S w (.s l.length 4 (tysC l)) (.slice a m c)) (hk' : InC S' w (.s l'.length 4 (tysC l')) (.slice a' m' c')) :
    Calls Tryd.prog 53 #[.slice a m c, .slice a' m' c', .func (.func 24) #[] #[]] w fun e w' => e = .returned (.bool (eqD l l')) ∧ Below w.heap.size w w' := by
  obtain ⟨R, hR⟩ : ∃ R, eqD l l' = R := ⟨_, rfl⟩
  have HR := Lib.hid hR
  rw [hR]
  clear hR
  have hLm := hk.max_len
  have hLm' := hk'.max_len
  have e1 := hk.at_.1
  have e2 := hk'.at_.1
  rw [← e1] at hLm
  rw [← e2] at hLm'
  rw [tysC_eq] at hk hk'
  by_cases hne : m = m'
  · subst hne
    have HK := Lib.hid hk
    have HK' := Lib.hid hk'
    have HM := Lib.hid e1
    have HM' := Lib.hid e2
    have HX := Lib.hid hX
    clear hk hk' e1 e2 hX
    go_enter Tryd.func53, Tryd.ntmps53
    go_wp2_with fail
    go_loopw [17] (fun iv wr => ∃ i : Nat, i ≤ m ∧ iv = .int .i64 (i : Int) ∧ Hid (l.take i = l'.take i) ∧ Hid (Below w.heap.size w wr)) (fun iv _ => m - (intOf iv).toNat)
    case atStart => exact ⟨0, Nat.zero_le _, rfl, by simp [Hid], Below.refl _ _⟩
    case round =>
      obtain ⟨i, hi, rfl, HE, HB⟩ := hrel
      by_cases hlt : i < m
      · obtain ⟨x, hx⟩ : ∃ x, l[i]? = some x := ⟨_, List.getElem?_eq_getElem (by rw [← HM.out]; exact hlt)⟩
        obtain ⟨y, hy⟩ : ∃ y, l'[i]? = some y := ⟨_, List.getElem?_eq_getElem (by rw [← HM'.out]; exact hlt)⟩
        obtain ⟨g, off, k0, n0, s0, a0, m0, c0, rfl, hg1, hg2, hxv, f1, f2, f3, f4, q0, q1, q2, q3⟩ := kid_cells HK.out hx HB.out
        clear f1 f2 f3 f4
        obtain ⟨g', off', k9, n9, s9, a9, m9, c9, rfl, hg3, hg4, hyv, f1, f2, f3, f4, p0, p1, p2, p3⟩ := kid_cells HK'.out hy HB.out
        clear f1 f2 f3 f4
        obtain ⟨z0, hz0⟩ : ∃ z, strB s0 = z := ⟨_, rfl⟩
        obtain ⟨z9, hz9⟩ : ∃ z, strB s9 = z := ⟨_, rfl⟩
        rw [hz0] at hxv q2
        rw [hz9] at hyv p2
        have hxm := List.mem_of_getElem? hx
        have HT : Hid ((eqD x y = true → l.take (i + 1) = l'.take (i + 1)) ∧ (eqD x y = false → l ≠ l')) :=
          ⟨fun h => take_both hx hy HE.out (eqD_iff.1 h), fun h e => by
            rw [e, hy] at hx
            rw [eqD_true (Option.some.inj hx).symm] at h; cases h⟩
        have HC : Hid (∀ W', Below wr.heap.size wr W' → Calls Tryd.prog 24 #[.agg #[.int .i64 k0, .int .i64 n0, .string z0, .slice a0 m0 c0], .agg #[.int .i64 k9, .int .i64 n9, .string z9, .slice a9 m9 c9]] W' fun e w' => e = .returned (.bool (eqD x y)) ∧ Below W'.heap.size W' w') := fun W' hW' => HX.out x hxm y S S' _ _ W' (hxv.under hW') (hyv.under hW')
        have T1 : ∀ W, Sem.run Tryd.prog (Instr.indexAt 45 (.slice (some ⟨g, off, none⟩) m c) (.int .i64 (i : Int))) W = .ok (.pointer (some ⟨g, off + i * 4, none⟩)) W := fun W => by go_simp
        have T2 : ∀ W, Sem.run Tryd.prog (Instr.indexAt 45 (.slice (some ⟨g', off', none⟩) m c') (.int .i64 (i : Int))) W = .ok (.pointer (some ⟨g', off' + i * 4, none⟩)) W := fun W => by go_simp
        obtain ⟨b, hb⟩ : ∃ b, eqD x y = b := ⟨_, rfl⟩
        rw [hb] at HC HT
        clear hx hy hxv hyv hz0 hz9 hxm hb
        cases b with
        | true =>
          have HQ := Lib.hid (HT.out.1 rfl)
          clear HT
          go_wp2_with (go_at_call 24; (with_reducible refine (HC.out _ (((Below.refl _ wr).alloc (Nat.le_refl _) _).alloc (by simp) _)).mono ?_); rintro e1 wz ⟨rfl, hbz⟩; have HBZ := Lib.hid (HB.out.trans (((((Below.refl _ wr).alloc (Nat.le_refl _) _).alloc (by simp) _).trans (hbz.mono (by simp; omega))).mono HB.out.size)); clear hbz)
          go_roundw
          case rel => exact ⟨i + 1, by omega, by go_num, HQ, HBZ⟩
          case measure => simp [intOf]; omega
        | false =>
          go_wp2_with (go_at_call 24; (with_reducible refine (HC.out _ (((Below.refl _ wr).alloc (Nat.le_refl _) _).alloc (by simp) _)).mono ?_); rintro e1 wz ⟨rfl, hbz⟩; have HBZ := Lib.hid (HB.out.trans (((((Below.refl _ wr).alloc (Nat.le_refl _) _).alloc (by simp) _).trans (hbz.mono (by simp; omega))).mono HB.out.size)); clear hbz)
          go_ret
          exact ⟨ret_bool (HR.out ▸ (eqD_false (HT.out.2 (by simp))).symm), HBZ.out⟩
      · have him : i = m := by omega
        subst him
        go_wp2_with fail
        go_ret
        refine ⟨ret_bool (HR.out ▸ (eqD_true ?_).symm), HB.out⟩
        have := HE.out
        rwa [List.take_of_length_le (by rw [← HM.out]; exact Nat.le_refl _), List.take_of_length_le (by rw [← HM'.out]; exact Nat.le_refl _)] at this
  · have hd : ((m : Int) != (m' : Int)) = true := by simp; omega
    have HN : Hid (l ≠ l') := fun e => by subst e; omega
    clear hk hk' e1 e2 hX hne
    go_enter Tryd.func53, Tryd.ntmps53
    go_wp2_with fail
    go_ret
    exact ⟨ret_bool (HR.out ▸ (eqD_false HN.out).symm), Below.refl _ _⟩

set_option maxRecDepth 100000 in
set_option maxHeartbeats 4000000 in
theorem ty_same_step (k n : Int) (s : By) (kids : List Ty) (hX : ∀ x ∈ kids, Tells2 24 x) : Tells2 24 (.mk k n s kids) := by
  intro y S S' v v' w hv hv'
  obtain ⟨k', n', s', kids'⟩ := y
  obtain ⟨a, c, rfl, hk⟩ := hv.ty
  obtain ⟨a', c', rfl, hk'⟩ := hv'.ty
  have HC : Hid (∀ w', Below w.heap.size w w' → Calls Tryd.prog 53 #[.slice a kids.length c, .slice a' kids'.length c', .func (.func 24) #[] #[]] w' fun e w'' => e = .returned (.bool (eqD kids kids')) ∧ Below w'.heap.size w' w'') := fun w' hw' => ty_EqualFunc kids hX kids' S S' a a' _ _ c c' w' (hk.under hw') (hk'.under hw')
  obtain ⟨m, hm⟩ : ∃ m, kids.length = m := ⟨_, rfl⟩
  obtain ⟨m', hm'⟩ : ∃ m, kids'.length = m := ⟨_, rfl⟩
  rw [hm, hm'] at HC
  rw [hm, hm']
  clear hv hv' hk hk' hX hm hm'
  by_cases h1 : k = k'
  · subst h1
    by_cases h2 : n = n'
    · subst h2
      by_cases h3 : s = s'
      · subst h3
        obtain ⟨z, hz⟩ : ∃ z, strB s = z := ⟨_, rfl⟩
        rw [hz]
        rw [eqD_mk]
        obtain ⟨b, hb⟩ : ∃ b, eqD kids kids' = b := ⟨_, rfl⟩
        rw [hb] at HC ⊢
        clear hz hb
        go_enter Tryd.func24, Tryd.ntmps24
        go_wp2_with (go_at_call 53; (with_reducible refine (HC.out _ ?_).mono ?_); (exact ((Below.refl _ w).alloc (Nat.le_refl _) _).alloc (by simp) _); rintro e1 wz ⟨rfl, hbz⟩; have HBZ := Lib.hid hbz; clear hbz)
        go_ret
        exact ⟨rfl, (((Below.refl _ w).alloc (Nat.le_refl _) _).alloc (by simp) _).trans (HBZ.out.mono (by simp; omega))⟩
      · obtain ⟨z, hz⟩ : ∃ z, strB s = z := ⟨_, rfl⟩
        obtain ⟨z', hz'⟩ : ∃ z, strB s' = z := ⟨_, rfl⟩
        have e3 : (z.toList == z'.toList) = false := by
          rw [← hz, ← hz']; simp [strB, ByteArray.toList_eq]; exact h3
        rw [eqD_false (show Ty.mk k n s kids ≠ Ty.mk k n s' kids' from fun e => h3 (by injection e))]
        rw [hz, hz']
        clear hz hz' h3 HC
        go_enter Tryd.func24, Tryd.ntmps24
        go_wp2_with fail
        go_ret
        exact ⟨rfl, (((Below.refl _ w).alloc (Nat.le_refl _) _).alloc (by simp) _)⟩
    · have e2 : (n == n') = false := by simpa using h2
      rw [eqD_false (show Ty.mk k n s kids ≠ Ty.mk k n' s' kids' from fun e => h2 (by injection e))]
      obtain ⟨z, hz⟩ : ∃ z, strB s = z := ⟨_, rfl⟩
      obtain ⟨z', hz'⟩ : ∃ z, strB s' = z := ⟨_, rfl⟩
      rw [hz, hz']
      clear h2 HC hz hz'
      go_enter Tryd.func24, Tryd.ntmps24
      go_wp2_with fail
      go_ret
      exact ⟨rfl, (((Below.refl _ w).alloc (Nat.le_refl _) _).alloc (by simp) _)⟩
  · have e1 : (k == k') = false := by simpa using h1
    rw [eqD_false (show Ty.mk k n s kids ≠ Ty.mk k' n' s' kids' from fun e => h1 (by injection e))]
    obtain ⟨z, hz⟩ : ∃ z, strB s = z := ⟨_, rfl⟩
    obtain ⟨z', hz'⟩ : ∃ z, strB s' = z := ⟨_, rfl⟩
    rw [hz, hz']
    clear h1 HC hz hz'
    go_enter Tryd.func24, Tryd.ntmps24
    go_wp2_with fail
    go_ret
    exact ⟨rfl, (((Below.refl _ w).alloc (Nat.le_refl _) _).alloc (by simp) _)⟩
/-- Package term's Same. -/
theorem ty_Same (x : Ty) : Tells2 24 x := Ty.ind (P := Tells2 24) (fun k n s kids ih => ty_same_step k n s kids ih) x

end Go.Proofs.YtpfcpeljfgmjgaaDoor
