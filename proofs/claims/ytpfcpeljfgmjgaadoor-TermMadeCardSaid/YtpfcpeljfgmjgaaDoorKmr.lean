/- The document's May (reference 15). -/
import Derived.Test.YtpfcpeljfgmjgaaDoorKmz
namespace Go.Proofs.YtpfcpeljfgmjgaaDoor
open Go.RowKit
set_option linter.unusedVariables false
set_option linter.unusedSimpArgs false

set_option maxHeartbeats 1000000 in
theorem r_Con17 (s : ByteArray) (w : World) (hs : s.size ≤ maxLen) :
    Calls Tryd.prog 86 #[.string s] w fun e w' => e = .returned (.bool (conN s.data.toList)) ∧ w' = w := by
  unfold conN
  cases hr : rowB s.data.toList
  · go_enter Tryd.func86, Tryd.ntmps86
    go_wp2_with (go_at_call 109; refine (r_row _ _ hs).mono ?_; rw [hr]; rintro e w' ⟨rfl, rfl⟩)
    go_ret
    exact ⟨rfl, rfl⟩
  · have hpos : 0 < s.size := by have := (rowB_iff _).1 hr; rw [len_data] at this; omega
    rw [head_data s hpos]
    have hb : s[0].toNat ≤ 255 := byte_le _
    have HS := Lib.hid hs
    clear hs
    cases hl : uppN s[0].toNat
    all_goals
      go_enter Tryd.func86, Tryd.ntmps86
      go_wp2_with (first
        | (go_at_call 109; refine (r_row _ _ HS.out).mono ?_; rw [hr]; rintro e w' ⟨rfl, rfl⟩)
        | (go_at_call 110; refine (r_upper _ _ hb).mono ?_; rw [hl]; rintro e w' ⟨rfl, rfl⟩))
      go_ret
      exact ⟨rfl, rfl⟩

def RMay (d : Nat) (x : Ty) : Prop := ∀ (S : Nat → Prop) (u : Value) (w : World), IsV S w (tyC x) u → x.sz ≤ maxLen →
  Calls Tryd.prog 51 #[u, .int .i64 (d : Int)] w fun e w' => e = .returned (.bool (mayL d x)) ∧ Below w.heap.size w w'
theorem rmay_zero (k n : Int) (s : By) (kids : List Ty) : RMay 0 (.mk k n s kids) := by
  intro S u w hv hs
  obtain ⟨a, c, rfl, hk⟩ := hv.ty
  obtain ⟨z, hz⟩ : ∃ z, strB s = z := ⟨_, rfl⟩
  rw [hz]
  have HB : Hid (Below w.heap.size w (w.alloc (.cells #[.int .i64 k, .int .i64 n, .string z, .slice a kids.length c] 47))) := (Below.refl _ w).alloc (Nat.le_refl _) _
  clear hv hk hz hs
  go_enter Tryd.func51, Tryd.ntmps51
  go_wp2_with fail
  go_ret
  exact ⟨rfl, HB.out⟩
theorem name_cases (s : By) : (s = tArrow ∧ s ≠ tComma) ∨ (s ≠ tArrow ∧ s = tComma) ∨ (s ≠ tArrow ∧ s ≠ tComma) := by
  by_cases h1 : s = tArrow
  · exact .inl ⟨h1, by rw [h1]; decide⟩
  · by_cases h2 : s = tComma
    · exact .inr (.inl ⟨h1, h2⟩)
    · exact .inr (.inr ⟨h1, h2⟩)
/-- What the tests on a name say. -/
structure NTest (z : ByteArray) (b1 b2 : Bool) : Prop where
  e1 : (z.toList == [45, 62]) = b1
  e2 : (z.toList == [44]) = b2
  e3 : (!(z.toList == [45, 62])) = !b1
  e4 : (!(z.toList == [44])) = !b2
theorem NTest.of {z : ByteArray} {s : By} (hz : z.data.toList = s) : NTest z (decide (s = tArrow)) (decide (s = tComma)) := by
  have h1 : (z.toList == [45, 62]) = decide (s = tArrow) := by rw [toList_dec, hz]; rfl
  have h2 : (z.toList == [44]) = decide (s = tComma) := by rw [toList_dec, hz]; rfl
  exact ⟨h1, h2, by rw [h1], by rw [h2]⟩

set_option maxRecDepth 100000 in
set_option maxHeartbeats 8000000 in
theorem rmay_step (d : Nat) (hd : d < 1000) (k n : Int) (s : By) (kids : List Ty) (hX : ∀ x ∈ kids, RMay d x) : RMay (d + 1) (.mk k n s kids) := by
  intro S u w hv hs
  obtain ⟨a, c, rfl, hk⟩ := hv.ty
  have hLm := hk.max_len
  simp only [Ty.sz] at hs
  unfold maxLen at hs
  obtain ⟨z, hz⟩ : ∃ z, strB s = z := ⟨_, rfl⟩
  have hzs : z.size ≤ maxLen := by rw [← hz, strB_size]; unfold maxLen; omega
  have hzl : z.data.toList = s := by rw [← hz, strB_list]
  have HNS : Hid (∀ x ∈ kids, x.sz ≤ maxLen) := fun x hx => by have := Ty.sz_mem hx; unfold maxLen; omega
  rw [hz]
  obtain ⟨m, hm⟩ : ∃ m, kids.length = m := ⟨_, rfl⟩
  have HCON := Lib.hid (fun (W : World) => r_Con17 z W hzs)
  have e0s : (z.toList == []) = decide (s = []) := by rw [toList_dec, hzl]
  have nt := NTest.of hzl
  rw [hzl] at HCON
  rw [tysC_eq] at hk
  have HK := Lib.hid hk
  have HM := Lib.hid hm
  have HX := Lib.hid hX
  have hW0 : Below w.heap.size w (w.alloc (.cells #[.int .i64 k, .int .i64 n, .string z, .slice a m c] 47)) := (Below.refl _ w).alloc (Nat.le_refl _) _
  have hbx := Box.new w 47 [.int .i64 k, .int .i64 n, .string z, .slice a m c]
  simp only [mayL]
  rw [hm] at HK hLm ⊢
  obtain ⟨R, hR⟩ : ∃ R, (headMay k n s m && kids.all (mayL d)) = R := ⟨_, rfl⟩
  rw [hR]
  rw [headMay_eq] at hR
  have eL : decide (((d + 1 : Nat) : Int) < 1) = false := decide_eq_false (by omega)
  rw [show ((d + 1 : Nat) : Int) = (d : Int) + 1 from by omega] at eL ⊢
  clear hv hk hX hz hzl hzs hm hs
  obtain ⟨W0, hW⟩ : ∃ W0, w.alloc (.cells #[.int .i64 k, .int .i64 n, .string z, .slice a m c] 47) = W0 := ⟨_, rfl⟩
  have HW : Hid (Below w.heap.size w W0) := hW ▸ hW0
  have HBX : Hid (Box W0 w.heap.size 47 [.int .i64 k, .int .i64 n, .string z, .slice a m c]) := hW ▸ hbx
  clear hW0 hbx
  obtain ⟨_, _, _, _⟩ := four_cells HBX.out
  have hbl := HBX.out.lt
  by_cases h1 : k = 1
  · subst h1
    rw [if_pos rfl] at hR
    have e4 : ((m : Int) == 0) = decide (m = 0) := by rw [Bool.eq_iff_iff]; simp
    have e1g : decide ((0 : Int) ≤ n) = decide (0 ≤ n) := rfl
    obtain ⟨v1, hv1⟩ : ∃ v, decide ((0 : Int) ≤ n) = v := ⟨_, rfl⟩
    obtain ⟨v2, hv2⟩ : ∃ v, decide (n ≤ (2147483647 : Int)) = v := ⟨_, rfl⟩
    obtain ⟨v3, hv3⟩ : ∃ v, decide (s = []) = v := ⟨_, rfl⟩
    obtain ⟨v4, hv4⟩ : ∃ v, decide (m = 0) = v := ⟨_, rfl⟩
    rw [hv3] at e0s
    rw [hv4] at e4
    rw [hv1, hv2, hv3, hv4] at hR
    have HA : Hid (m = 0 → kids.all (mayL d) = true) := fun h0 => by
      have : kids = [] := List.eq_nil_of_length_eq_zero (by rw [HM.out]; exact h0)
      rw [this]; rfl
    have HR : Hid ((v1 && v2 && v3 && v4) = R) := by
      show _ = _
      rw [← hR]
      cases v4 with
      | true => rw [HA.out (of_decide_eq_true hv4)]; simp
      | false => simp
    clear hR hv3 hv4 e1g HCON nt HA
    cases v1 <;> cases v2 <;> cases v3 <;> cases v4
    all_goals
      go_enter Tryd.func51, Tryd.ntmps51
      go_wp2_with fail
      go_ret
      exact ⟨ret_bool HR.out, HW.out⟩
  · have e1 : (k == 1) = false := by simpa using h1
    rw [if_neg h1] at hR
    by_cases h2 : k = 2
    · subst h2
      rw [if_pos rfl] at hR
      by_cases hn0 : n = 0
      · subst hn0
        have hb : ∃ v, haveL s m = v := ⟨_, rfl⟩
        obtain ⟨v, hv⟩ := hb
        rw [hv, show decide ((0 : Int) = 0) = true from rfl, Bool.true_and] at hR
        have HR := Lib.hid hR
        clear hR h1 e0s
        go_enter Tryd.func51, Tryd.ntmps51
        go_upto_region 9 with fail
        try rw [hW]
        try clear hW
        go_cut [79] (fun v79 wx => ∃ b, v79 = .bool b ∧ Hid (b = !v) ∧ W0 = wx)
        case first =>
          rcases name_cases s with ⟨p1, p2⟩ | ⟨p1, p2⟩ | ⟨p1, p2⟩
          · rw [decide_eq_true p1, decide_eq_false p2] at nt
            obtain ⟨n1, n2, n3, n4⟩ := nt
            have hV : v = decide (m = 2) := by rw [← hv]; unfold haveL; rw [if_pos p1]
            have e9 : ((m : Int) == 2) = v := by rw [hV, Bool.eq_iff_iff]; simp; omega
            have e8 : ((m : Int) != 2) = !v := by unfold bne; rw [e9]
            clear p1 p2 hv hV HCON
            cases v
            all_goals
              go_wp2_with fail
              go_meet
              exact ⟨_, rfl, rfl, rfl⟩
          · rw [decide_eq_false p1, decide_eq_true p2] at nt
            obtain ⟨n1, n2, n3, n4⟩ := nt
            have hV : v = (decide (2 ≤ m) && decide (m ≤ 8)) := by rw [← hv]; unfold haveL; rw [if_neg p1, if_pos p2]
            clear p1 p2 hv HCON
            by_cases g1 : 2 ≤ m
            · have e9 : decide ((m : Int) < 2) = false := decide_eq_false (by omega)
              have e8 : decide ((8 : Int) < (m : Int)) = !v := by rw [hV, decide_eq_true g1, Bool.true_and, Bool.eq_iff_iff]; simp; omega
              clear hV g1
              cases v
              all_goals
                go_wp2_with fail
                go_meet
                exact ⟨_, rfl, rfl, rfl⟩
            · have e9 : decide ((m : Int) < 2) = true := decide_eq_true (by omega)
              have hV2 : v = false := by rw [hV, decide_eq_false g1, Bool.false_and]
              subst hV2
              clear hV g1
              go_wp2_with fail
              go_meet
              exact ⟨_, rfl, rfl, rfl⟩
          · rw [decide_eq_false p1, decide_eq_false p2] at nt
            obtain ⟨n1, n2, n3, n4⟩ := nt
            have hV : v = (conN s && decide (m ≤ 20)) := by rw [← hv]; unfold haveL; rw [if_neg p1, if_neg p2]
            obtain ⟨q, hq⟩ : ∃ q, conN s = q := ⟨_, rfl⟩
            rw [hq] at HCON hV
            clear p1 p2 hv hq
            cases q with
            | false =>
              rw [Bool.false_and] at hV
              subst hV
              go_wp2_with (go_at_call 86; (with_reducible refine (HCON.out _).mono ?_); rintro e w2 ⟨rfl, rfl⟩)
              go_meet
              exact ⟨_, rfl, rfl, rfl⟩
            | true =>
              rw [Bool.true_and] at hV
              have e8 : decide ((20 : Int) < (m : Int)) = !v := by rw [hV, Bool.eq_iff_iff]; simp; omega
              clear hV
              cases v
              all_goals
                go_wp2_with (go_at_call 86; (with_reducible refine (HCON.out _).mono ?_); rintro e w2 ⟨rfl, rfl⟩)
                go_meet
                exact ⟨_, rfl, rfl, rfl⟩
        case rest =>
          obtain ⟨b, rfl, hb, rfl⟩ := hcut
          clear nt hv HCON
          cases v with
          | false =>
            obtain rfl : b = true := hb.out
            clear hb
            go_wp2_with fail
            go_ret
            exact ⟨ret_bool HR.out, HW.out⟩
          | true =>
            obtain rfl : b = false := hb.out
            clear hb
            go_wp2_with fail
            go_loopw [6] (fun iv wr => ∃ i : Nat, i ≤ m ∧ iv = .int .i64 (i : Int) ∧ Hid ((kids.take i).all (mayL d) = true) ∧ Hid (Below W0.heap.size W0 wr)) (fun iv _ => m - (intOf iv).toNat)
            case atStart => exact ⟨0, Nat.zero_le _, rfl, by simp [Hid], Lib.hid (Below.refl _ _)⟩
            case round =>
              obtain ⟨i, hi, rfl, HA, HB⟩ := hrel
              have hby := HBX.out.below HB.out
              obtain ⟨_, _, _, _⟩ := four_cells hby
              have hyl := hby.lt
              have hGw := HW.out.trans (HB.out.mono HW.out.size)
              by_cases hlt : i < m
              · obtain ⟨x, hx⟩ : ∃ x, kids[i]? = some x := ⟨_, List.getElem?_eq_getElem (by rw [HM.out]; exact hlt)⟩
                have hK9 := HK.out
                rw [← HM.out] at hK9
                obtain ⟨g, off, k', n', s', a', m', c', rfl, hgr, hgw, hxv, f1, f2, f3, f4, q0, q1, q2, q3⟩ := kid_cells hK9 hx hGw
                clear f1 f2 f3 f4
                have hxm := List.mem_of_getElem? hx
                obtain ⟨z', hz'⟩ : ∃ z', strB s' = z' := ⟨_, rfl⟩
                rw [hz'] at hxv q2
                have HTK := Lib.hid (take_snoc' hx)
                have HC := Lib.hid (HX.out x hxm S _ wr hxv (HNS.out x hxm))
                obtain ⟨v, hv⟩ : ∃ v, mayL d x = v := ⟨_, rfl⟩
                have HV := Lib.hid hv
                rw [hv] at HC
                have T1 : ∀ W, Sem.run Tryd.prog (Instr.indexAt 45 (.slice (some ⟨g, off, none⟩) m c) (.int .i64 (i : Int))) W = .ok (.pointer (some ⟨g, off + i * 4, none⟩)) W := fun W => by go_simp
                clear hx hxv hz' hK9 hv hby
                cases v with
                | false =>
                  go_wp2_with (go_at_call 51; (with_reducible refine (HC.out).mono ?_); rintro e w2 ⟨rfl, hb2⟩; have HB2 := Lib.hid (hGw.trans (hb2.mono hGw.size)); clear hb2)
                  go_ret
                  refine ⟨ret_bool ?_, HB2.out⟩
                  refine Eq.trans ?_ HR.out
                  rw [Bool.true_and]
                  refine (List.all_eq_false.2 ⟨x, hxm, ?_⟩).symm
                  rw [HV.out]; simp
                | true =>
                  go_wp2_with (go_at_call 51; (with_reducible refine (HC.out).mono ?_); rintro e w2 ⟨rfl, hb2⟩; have HB2 := Lib.hid (HB.out.trans (hb2.mono HB.out.size)); clear hb2)
                  go_roundw
                  case rel => exact ⟨i + 1, by omega, by go_num, by show _ = _; rw [HTK.out]; simp [HA.out, HV.out], HB2⟩
                  case measure => simp [intOf]; omega
              · have him : i = m := by omega
                subst him
                clear hby
                go_wp2_with fail
                go_ret
                refine ⟨ret_bool ?_, hGw⟩
                have := HA.out
                rw [List.take_of_length_le (by rw [HM.out]; exact Nat.le_refl _)] at this
                rw [← HR.out, this]; rfl
      · have e3 : (n != 0) = true := by simpa using hn0
        rw [decide_eq_false hn0, Bool.false_and, Bool.false_and] at hR
        have HR := Lib.hid hR
        clear hR h1 hn0 e0s nt HCON
        go_enter Tryd.func51, Tryd.ntmps51
        go_wp2_with fail
        go_ret
        exact ⟨ret_bool HR.out, HW.out⟩
    · have e2 : (k == 2) = false := by simpa using h2
      rw [if_neg h2, Bool.false_and] at hR
      have HR := Lib.hid hR
      clear h1 h2 hR e0s nt HCON
      go_enter Tryd.func51, Tryd.ntmps51
      go_wp2_with fail
      go_ret
      exact ⟨ret_bool HR.out, HW.out⟩
theorem rmay_all : ∀ (d : Nat) (x : Ty), d ≤ 1000 → RMay d x
  | 0, .mk k n s kids, _ => rmay_zero k n s kids
  | d + 1, .mk k n s kids, h => rmay_step d (by omega) k n s kids fun x _ => rmay_all d x (by omega)
/-- The document's May. -/
theorem r_May (x : Ty) (S : Nat → Prop) (u : Value) (w : World) (hv : IsV S w (tyC x) u) (hs : x.sz ≤ maxLen) :
    Calls Tryd.prog 21 #[u] w fun e w' => e = .returned (.bool (mayL 100 x)) ∧ Below w.heap.size w w' := by
  have HC : Hid (∀ W', Below w.heap.size w W' → Calls Tryd.prog 51 #[u, .int .i64 100] W' fun e w' => e = .returned (.bool (mayL 100 x)) ∧ Below W'.heap.size W' w') := fun W' hW' => rmay_all 100 x (by omega) S u W' (hv.under hW') hs
  obtain ⟨k, n, s, kids⟩ := x
  obtain ⟨a, c, rfl, hk⟩ := hv.ty
  obtain ⟨z, hz⟩ : ∃ z, strB s = z := ⟨_, rfl⟩
  obtain ⟨m, hm⟩ : ∃ m, kids.length = m := ⟨_, rfl⟩
  obtain ⟨v, hv9⟩ : ∃ v, mayL 100 (.mk k n s kids) = v := ⟨_, rfl⟩
  rw [hz, hm, hv9] at HC
  rw [hz, hm, hv9]
  clear hv hk hz hm hv9 hs
  go_enter Tryd.func21, Tryd.ntmps21
  go_wp2_with (go_at_call 51; (with_reducible refine (HC.out _ ((Below.refl _ w).alloc (Nat.le_refl _) _)).mono ?_); rintro e w2 ⟨rfl, hb2⟩; have HB2 := Lib.hid (((Below.refl _ w).alloc (Nat.le_refl _) _).trans (hb2.mono (by simp))); clear hb2)
  go_ret
  exact ⟨rfl, HB2.out⟩

end Go.Proofs.YtpfcpeljfgmjgaaDoor
