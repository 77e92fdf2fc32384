/- Package term: mayBe, May, nodes, Size; the document's. -/
import Derived.Test.YtpfcpeljfgmjgaaDoorKmy
import Derived.Test.YtpfcpeljfgmjgaaDoorKmb
import Derived.Deep.RegionWith
import Derived.Deep.RegionHeld3
import Derived.Deep.DeepCutAuto
namespace Go.Proofs.YtpfcpeljfgmjgaaDoor
open Go.RowKit
set_option linter.unusedVariables false
set_option linter.unusedSimpArgs false

mutual
/-- The longest name. -/
def Ty.sz : Ty → Nat
  | .mk _ _ s kids => max s.length (Ty.szs kids)
def Ty.szs : List Ty → Nat
  | [] => 0
  | x :: r => max x.sz (Ty.szs r)
end
theorem Ty.sz_mem : ∀ {l : List Ty} {x : Ty}, x ∈ l → x.sz ≤ Ty.szs l
  | y :: r, x, h => by
    simp only [Ty.szs]
    rcases List.mem_cons.1 h with rfl | h
    · omega
    · have := Ty.sz_mem h; omega
theorem strB_list (s : By) : (strB s).data.toList = s := by simp [strB]
/-- A kid's cells as the walk wants them. -/
theorem kid_cells {S : Nat → Prop} {w wr : World} {kids : List Ty} {a : Option Addr} {m c i : Nat} {x : Ty} (h : InC S w (.s kids.length 4 (kids.flatMap tyC)) (.slice a m c)) (hx : kids[i]? = some x) (hb : Below w.heap.size w wr) :
    ∃ (g off : Nat) (k n : Int) (s : By) (a' : Option Addr) (m' c' : Nat), a = some ⟨g, off, none⟩ ∧ g < wr.heap.size ∧ g < w.heap.size ∧ IsV S wr (tyC x) (.agg #[.int .i64 k, .int .i64 n, .string (strB s), .slice a' m' c']) ∧ x.nm = s ∧ x.kd = k ∧ x.num = n ∧ m' = x.kids.length
      ∧ wr.cell? ⟨g, off + i * 4, none⟩ = some (.int .i64 k) ∧ wr.cell? ⟨g, off + i * 4 + 1, none⟩ = some (.int .i64 n) ∧ wr.cell? ⟨g, off + i * 4 + 2, none⟩ = some (.string (strB s)) ∧ wr.cell? ⟨g, off + i * 4 + 3, none⟩ = some (.slice a' m' c') := by
  obtain ⟨g, off, us, rfl, hg, hv, hc⟩ := h.elem tyC_len hx
  obtain ⟨k, n, s, kk⟩ := x
  obtain ⟨a', c', e, hk⟩ := hv.ty
  obtain rfl := agg_inj e
  have hcc : ∀ (j : Nat) (u : Value), ([.int .i64 k, .int .i64 n, .string (strB s), .slice a' kk.length c'] : List Value)[j]? = some u → wr.cell? ⟨g, off + (i * 4 + j), none⟩ = some u := fun j u hu => (hb.cell (p := ⟨g, off + (i * 4 + j), none⟩) hg).trans (hc j u hu)
  have q0 := hcc 0 _ rfl
  have q1 := hcc 1 _ rfl
  have q2 := hcc 2 _ rfl
  have q3 := hcc 3 _ rfl
  rw [← Nat.add_assoc] at q0 q1 q2 q3
  exact ⟨g, off, k, n, s, a', _, c', rfl, by have := hb.size; omega, hg, hv.under hb, rfl, rfl, rfl, rfl, q0, q1, q2, q3⟩

def MayB (d : Nat) (x : Ty) : Prop := ∀ (S : Nat → Prop) (u : Value) (w : World), IsV S w (tyC x) u → x.sz ≤ maxLen →
  Calls Tryd.prog 50 #[u, .int .i64 (d : Int)] w fun e w' => e = .returned (.bool (mayL d x)) ∧ Below w.heap.size w w'
theorem may_zero (k n : Int) (s : By) (kids : List Ty) : MayB 0 (.mk k n s kids) := by
  intro S u w hv hs
  obtain ⟨a, c, rfl, hk⟩ := hv.ty
  obtain ⟨z, hz⟩ : ∃ z, strB s = z := ⟨_, rfl⟩
  rw [hz]
  have HB : Hid (Below w.heap.size w (w.alloc (.cells #[.int .i64 k, .int .i64 n, .string z, .slice a kids.length c] 47))) := (Below.refl _ w).alloc (Nat.le_refl _) _
  clear hv hk hz hs
  go_enter Tryd.func50, Tryd.ntmps50
  go_wp2_with fail
  go_ret
  exact ⟨rfl, HB.out⟩
set_option maxRecDepth 100000 in
set_option maxHeartbeats 4000000 in
theorem may_step (d : Nat) (hd : d < 1000) (k n : Int) (s : By) (kids : List Ty) (hX : ∀ x ∈ kids, MayB d x) : MayB (d + 1) (.mk k n s kids) := by
  intro S u w hv hs
  obtain ⟨a, c, rfl, hk⟩ := hv.ty
  have hLm := hk.max_len
  simp only [Ty.sz] at hs
  unfold maxLen at hs
  obtain ⟨z, hz⟩ : ∃ z, strB s = z := ⟨_, rfl⟩
  have hzs : z.size ≤ maxLen := by rw [← hz, strB_size]; unfold maxLen; omega
  have hzl : z.data.toList = s := by rw [← hz, strB_list]
  have HNS : Hid (∀ x ∈ kids, x.sz ≤ maxLen) := fun x hx => by have := Ty.sz_mem hx; unfold maxLen; omega
  rw [hz]
  obtain ⟨m, hm⟩ : ∃ m, kids.length = m := ⟨_, rfl⟩
  have HN := Lib.hid (fun (W : World) => ty_mayNode k n z s hzl a m c W hzs (by unfold maxLen; omega))
  rw [tysC_eq] at hk
  have HK := Lib.hid hk
  have HM := Lib.hid hm
  have HX := Lib.hid hX
  have hW0 : Below w.heap.size w (w.alloc (.cells #[.int .i64 k, .int .i64 n, .string z, .slice a m c] 47)) := (Below.refl _ w).alloc (Nat.le_refl _) _
  have hbx := Box.new w 47 [.int .i64 k, .int .i64 n, .string z, .slice a m c]
  simp only [mayL]
  rw [hm] at HK hLm ⊢
  obtain ⟨v0, hv0⟩ : ∃ v, headMay k n s m = v := ⟨_, rfl⟩
  rw [hv0] at HN ⊢
  obtain ⟨R, hR⟩ : ∃ R, (v0 && kids.all (mayL d)) = R := ⟨_, rfl⟩
  rw [hR]
  have HR := Lib.hid hR
  have e0 : (((d + 1 : Nat) : Int) == 0) = false := by simp; omega
  rw [show ((d + 1 : Nat) : Int) = (d : Int) + 1 from by omega] at e0 ⊢
  clear hv hk hX hz hzl hzs hm hv0 hs hR
  obtain ⟨W0, hW⟩ : ∃ W0, w.alloc (.cells #[.int .i64 k, .int .i64 n, .string z, .slice a m c] 47) = W0 := ⟨_, rfl⟩
  have HW : Hid (Below w.heap.size w W0) := hW ▸ hW0
  have HBX : Hid (Box W0 w.heap.size 47 [.int .i64 k, .int .i64 n, .string z, .slice a m c]) := hW ▸ hbx
  clear hW0 hbx
  obtain ⟨_, _, _, _⟩ := four_cells HBX.out
  have hbl := HBX.out.lt
  go_enter Tryd.func50, Tryd.ntmps50
  go_upto_region 1 with fail
  try rw [hW]
  clear hW
  cases v0 with
  | false =>
    go_wp2_with (go_at_call 85; refine (HN.out _).mono ?_; rintro e w1 ⟨rfl, hb1⟩; have HB1 := Lib.hid hb1; clear hb1)
    go_ret
    exact ⟨ret_bool HR.out, HW.out.trans (HB1.out.mono HW.out.size)⟩
  | true =>
    go_wp2_with (go_at_call 85; refine (HN.out _).mono ?_; rintro e w1 ⟨rfl, hb1⟩; have hy1 := HBX.out.below hb1; obtain ⟨_, _, _, _⟩ := four_cells hy1; have hy1l := hy1.lt; have HB1 := Lib.hid (HW.out.trans (hb1.mono HW.out.size)); clear hb1 hy1)
    clear HN HBX
    go_loopw [17] (fun iv wr => ∃ i : Nat, i ≤ m ∧ iv = .int .i64 (i : Int) ∧ Hid ((kids.take i).all (mayL d) = true) ∧ Hid (Below w.heap.size w wr)) (fun iv _ => m - (intOf iv).toNat)
    case atStart => exact ⟨0, Nat.zero_le _, rfl, by simp [Hid], HB1⟩
    case round =>
      obtain ⟨i, hi, rfl, HA, HB⟩ := hrel
      by_cases hlt : i < m
      · obtain ⟨x, hx⟩ : ∃ x, kids[i]? = some x := ⟨_, List.getElem?_eq_getElem (by rw [HM.out]; exact hlt)⟩
        have hK9 := HK.out
        rw [← HM.out] at hK9
        obtain ⟨g, off, k', n', s', a', m', c', rfl, hgr, hgw, hxv, f1, f2, f3, f4, q0, q1, q2, q3⟩ := kid_cells hK9 hx HB.out
        clear f1 f2 f3 f4
        have hxm := List.mem_of_getElem? hx
        obtain ⟨z', hz'⟩ : ∃ z', strB s' = z' := ⟨_, rfl⟩
        rw [hz'] at hxv q2
        have HTK := Lib.hid (take_snoc' hx)
        have HC : Hid (∀ W', Below wr.heap.size wr W' → Calls Tryd.prog 50 #[.agg #[.int .i64 k', .int .i64 n', .string z', .slice a' m' c'], .int .i64 (d : Int)] W' fun e w' => e = .returned (.bool (mayL d x)) ∧ Below W'.heap.size W' w') := fun W' hW' => HX.out x hxm S _ W' (hxv.under hW') (HNS.out x hxm)
        obtain ⟨v, hv⟩ : ∃ v, mayL d x = v := ⟨_, rfl⟩
        have HV := Lib.hid hv
        rw [hv] at HC
        have T1 : ∀ W, Sem.run Tryd.prog (Instr.indexAt 45 (.slice (some ⟨g, off, none⟩) m c) (.int .i64 (i : Int))) W = .ok (.pointer (some ⟨g, off + i * 4, none⟩)) W := fun W => by go_simp
        clear hx hxv hz' hK9 hv
        cases v with
        | false =>
          go_wp2_with (go_at_call 50; (with_reducible refine (HC.out _ ((Below.refl _ wr).alloc (Nat.le_refl _) _)).mono ?_); rintro e w2 ⟨rfl, hb2⟩; have HB2 := Lib.hid (HB.out.trans ((((Below.refl _ wr).alloc (Nat.le_refl _) _).trans (hb2.mono (by simp))).mono HB.out.size)); clear hb2)
          go_ret
          refine ⟨ret_bool ?_, HB2.out⟩
          refine Eq.trans ?_ HR.out
          rw [Bool.true_and]
          refine (List.all_eq_false.2 ⟨x, hxm, ?_⟩).symm
          rw [HV.out]; simp
        | true =>
          go_wp2_with (go_at_call 50; (with_reducible refine (HC.out _ ((Below.refl _ wr).alloc (Nat.le_refl _) _)).mono ?_); rintro e w2 ⟨rfl, hb2⟩; have HB2 := Lib.hid (HB.out.trans ((((Below.refl _ wr).alloc (Nat.le_refl _) _).trans (hb2.mono (by simp))).mono HB.out.size)); clear hb2)
          go_roundw
          case rel => exact ⟨i + 1, by omega, by go_num, by show _ = _; rw [HTK.out]; simp [HA.out, HV.out], HB2⟩
          case measure => simp [intOf]; omega
      · have him : i = m := by omega
        subst him
        go_wp2_with fail
        go_ret
        refine ⟨ret_bool ?_, HB.out⟩
        have := HA.out
        rw [List.take_of_length_le (by rw [HM.out]; exact Nat.le_refl _)] at this
        rw [← HR.out, this]; rfl
theorem may_all : ∀ (d : Nat) (x : Ty), d ≤ 1000 → MayB d x
  | 0, .mk k n s kids, _ => may_zero k n s kids
  | d + 1, .mk k n s kids, h => may_step d (by omega) k n s kids fun x _ => may_all d x (by omega)
/-- May. -/
theorem ty_May (x : Ty) (S : Nat → Prop) (u : Value) (w : World) (hv : IsV S w (tyC x) u) (hs : x.sz ≤ maxLen) :
    Calls Tryd.prog 20 #[u] w fun e w' => e = .returned (.bool (mayL 100 x)) ∧ Below w.heap.size w w' := by
  have HC : Hid (∀ W', Below w.heap.size w W' → Calls Tryd.prog 50 #[u, .int .i64 100] W' fun e w' => e = .returned (.bool (mayL 100 x)) ∧ Below W'.heap.size W' w') := fun W' hW' => may_all 100 x (by omega) S u W' (hv.under hW') hs
  obtain ⟨k, n, s, kids⟩ := x
  obtain ⟨a, c, rfl, hk⟩ := hv.ty
  obtain ⟨z, hz⟩ : ∃ z, strB s = z := ⟨_, rfl⟩
  obtain ⟨m, hm⟩ : ∃ m, kids.length = m := ⟨_, rfl⟩
  obtain ⟨v, hv9⟩ : ∃ v, mayL 100 (.mk k n s kids) = v := ⟨_, rfl⟩
  rw [hz, hm, hv9] at HC
  rw [hz, hm, hv9]
  clear hv hk hz hm hv9 hs
  go_enter Tryd.func20, Tryd.ntmps20
  go_wp2_with (go_at_call 50; (with_reducible refine (HC.out _ ((Below.refl _ w).alloc (Nat.le_refl _) _)).mono ?_); rintro e w2 ⟨rfl, hb2⟩; have HB2 := Lib.hid (((Below.refl _ w).alloc (Nat.le_refl _) _).trans (hb2.mono (by simp))); clear hb2)
  go_ret
  exact ⟨rfl, HB2.out⟩

end Go.Proofs.YtpfcpeljfgmjgaaDoor
