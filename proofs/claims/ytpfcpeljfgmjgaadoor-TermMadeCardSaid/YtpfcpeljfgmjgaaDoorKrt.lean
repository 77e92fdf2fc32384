/- The document's Text (reference 15). -/
import Derived.Test.YtpfcpeljfgmjgaaDoorKdg
namespace Go.Proofs.YtpfcpeljfgmjgaaDoor
open Go.RowKit
set_option linter.unusedVariables false
set_option linter.unusedSimpArgs false

theorem byte_str17 (c : Nat) (W : World) (b : Nat) (h : W.cell? ⟨b, 0, none⟩ = some (.int .u8 (97 + (c : Int)))) :
    (convert 35 9 (.slice (some ⟨b, 0, none⟩) 1 1)).run Tryd.prog W = .ok (.string (strB [UInt8.ofNat (97 + c)])) W := by
  have h2 := run_convert_bytes_arg W 35 5 Tryd.underlying35 Tryd.underlying5 b 0 1 1 [97 + (c : Int)] rfl (fun i hi => by have hi0 : i = 0 := (by omega); rw [hi0]; exact h) 9 Tryd.underlying9
  rw [h2]
  have : strOfNums [97 + (c : Int)] = strB [UInt8.ofNat (97 + c)] := by
    have e : (97 + (c : Int)).toNat = 97 + c := by omega
    show ByteArray.mk #[UInt8.ofNat (97 + (c : Int)).toNat] = ByteArray.mk #[UInt8.ofNat (97 + c)]
    rw [e]
  rw [this]
theorem run_cat17 {P : Program} {a b c : By} (h : c = a ++ b) (hl : a.length + b.length ≤ 9000000000000000000) (W : World) : Sem.run P (Op.stringOp .add (strB a) (strB b)) W = .ok (.string (strB c)) W := by
  subst h
  rw [← strB_app17]
  exact run_string_add_sum W (strB a) (strB b) (by rw [strB_size, strB_size]; omega)
def RTX (x : Ty) : Prop := ∀ (S : Nat → Prop) (u : Value) (w : World), IsV S w (tyC x) u → okT x → 130 * x.nn ≤ 10000000000000 →
  Calls Tryd.prog 33 #[u] w fun e w' => e = .returned (.string (strB (textL x))) ∧ Below w.heap.size w w'
set_option maxRecDepth 100000 in
set_option maxHeartbeats 8000000 in
theorem rtx_var (q : Nat) (hq : q ≤ 2147483647) (w : World) (a : Option Addr) (c : Nat) :
    Calls Tryd.prog 33 #[.agg #[.int .i64 1, .int .i64 (q : Int), .string ⟨#[]⟩, .slice a 0 c]] w fun e w' => e = .returned (.string (strB (varTx (q : Int)))) ∧ Below w.heap.size w w' := by
  obtain ⟨W1, hW1⟩ : ∃ W1, w.alloc (.cells #[.int .i64 1, .int .i64 (q : Int), .string ⟨#[]⟩, .slice a 0 c] 47) = W1 := ⟨_, rfl⟩
  have hb1 : Below w.heap.size w W1 := hW1 ▸ (Below.refl _ w).alloc (Nat.le_refl _) _
  have hbx : Box W1 w.heap.size 47 [.int .i64 1, .int .i64 (q : Int), .string ⟨#[]⟩, .slice a 0 c] := hW1 ▸ Box.new w 47 [.int .i64 1, .int .i64 (q : Int), .string ⟨#[]⟩, .slice a 0 c]
  have HB1 := Lib.hid hb1
  obtain ⟨_, _, _, _⟩ := four_cells hbx
  have hl1 := hbx.lt
  obtain ⟨r, hr⟩ : ∃ r, q % 26 = r := ⟨_, rfl⟩
  have hr26 : r < 26 := by omega
  have er : (q : Int).tmod 26 = (r : Int) := by rw [Int.tmod_eq_emod_of_nonneg (by omega)]; omega
  have er2 : (q : Int) % 26 = (r : Int) := by omega
  have ew : IntKind.u8.wrap (97 + (r : Int)) = 97 + (r : Int) := by rw [IntKind.wrap_u8]; omega
  have hB := byte_str17 r
  have hv0 : ∀ (h : 26 ≤ q), varTx (q : Int) = UInt8.ofNat (97 + r) :: Lib.decDigits (q / 26) := fun h => by unfold varTx; rw [if_pos (by omega), ← hr]; rfl
  have hv1 : ∀ (h : ¬ 26 ≤ q), varTx (q : Int) = [UInt8.ofNat (97 + r)] := fun h => by unfold varTx; rw [if_neg (by omega), ← hr]; rfl
  obtain ⟨cb, hcb⟩ : ∃ cb, UInt8.ofNat (97 + r) = cb := ⟨_, rfl⟩
  rw [hcb] at hB hv0 hv1
  clear hcb
  have HA : Hid (Below w.heap.size w (W1.alloc (.cells #[.int .u8 (97 + (r : Int))] 5))) := hb1.alloc hb1.size _
  by_cases h26 : 26 ≤ q
  · have e1 : decide ((26 : Int) ≤ (q : Int)) = true := decide_eq_true (by omega)
    have e2 : decide (26 ≤ q) = true := decide_eq_true h26
    obtain ⟨d, hd⟩ : ∃ d, q / 26 = d := ⟨_, rfl⟩
    have ed : (q : Int).tdiv 26 = (d : Int) := by rw [Int.tdiv_eq_ediv_of_nonneg (by omega)]; omega
    have ed2 : (q : Int) / 26 = (d : Int) := by omega
    have hdl : d ≤ 100000000 := by omega
    have hdd := decDigits_le 9 d (by omega)
    have HD := Lib.hid (fun W => r_Digits d W (by omega))
    have HT : Hid (varTx (q : Int) = cb :: Lib.decDigits d) := by show _ = _; rw [hv0 h26, hd]
    have T3 : ∀ W, Sem.run Tryd.prog (Op.stringOp .add (strB [cb]) (strB (Lib.decDigits d))) W = .ok (.string (strB (cb :: Lib.decDigits d))) W := fun W => run_cat17 (by simp) (by simp; omega) W
    clear hr hd h26 hb1 hbx hdd hv0 hv1
    go_enter Tryd.func33, Tryd.ntmps33
    go_upto_region 1 with fail
    try rw [hW1]
    try clear hW1
    go_wp2_with (go_at_call 65; (with_reducible refine (HD.out _).mono ?_); rintro e w2 ⟨rfl, hb2⟩; have HB2 := Lib.hid (HA.out.trans (hb2.mono HA.out.size)); clear hb2)
    go_ret
    exact ⟨ret_of (by rw [HT.out]; rfl), HB2.out⟩
  · have e1 : decide ((26 : Int) ≤ (q : Int)) = false := decide_eq_false (by omega)
    have e2 : decide (26 ≤ q) = false := decide_eq_false h26
    have HT : Hid (varTx (q : Int) = [cb]) := hv1 h26
    clear hr h26 hb1 hbx hv0 hv1
    go_enter Tryd.func33, Tryd.ntmps33
    go_upto_region 1 with fail
    try rw [hW1]
    try clear hW1
    go_wp2_with fail
    go_ret
    exact ⟨ret_of (by rw [HT.out]; rfl), HA.out⟩

set_option maxRecDepth 100000 in
set_option maxHeartbeats 8000000 in
theorem rtx_arr (n : Int) (x y : Ty) (hX : RTX x) (hY : RTX y) (hokx : okT x) (hoky : okT y) (S : Nat → Prop) (w : World) (a : Option Addr) (c : Nat) (hnn : 130 * (1 + (x.nn + y.nn)) ≤ 10000000000000) (hk : InC S w (.s 2 4 ([x, y].flatMap tyC)) (.slice a 2 c)) (z : ByteArray) (hz : z.data.toList = tArrow) :
    Calls Tryd.prog 33 #[.agg #[.int .i64 2, .int .i64 n, .string z, .slice a 2 c]] w fun e w' => e = .returned (.string (strB (held (isArr x) (textL x) ++ ([32, 45, 62, 32] ++ textL y)))) ∧ Below w.heap.size w w' := by
  have hxl := okT_len hokx
  have hyl := okT_len hoky
  obtain ⟨W1, hW1⟩ : ∃ W1, w.alloc (.cells #[.int .i64 2, .int .i64 n, .string z, .slice a 2 c] 47) = W1 := ⟨_, rfl⟩
  have hb1 : Below w.heap.size w W1 := hW1 ▸ (Below.refl _ w).alloc (Nat.le_refl _) _
  have hbx : Box W1 w.heap.size 47 [.int .i64 2, .int .i64 n, .string z, .slice a 2 c] := hW1 ▸ Box.new w 47 [.int .i64 2, .int .i64 n, .string z, .slice a 2 c]
  have HB1 := Lib.hid hb1
  have HBX := Lib.hid hbx
  obtain ⟨_, _, _, _⟩ := four_cells hbx
  have hl1 := hbx.lt
  have nt := NTest.of hz
  have ht1 := nt.e1
  have ht2 := nt.e2
  rw [decide_eq_true rfl] at ht1
  rw [show decide (tArrow = tComma) = false from by decide] at ht2
  have hk0 : InC S w (.s [x, y].length 4 ([x, y].flatMap tyC)) (.slice a 2 c) := hk
  have HKA := Lib.hid hk0
  obtain ⟨g, off, k1, n1, s1, a1, m1, c1, rfl, hgr, hgw, hxv, f1, f2, f3, f4, q0, q1, q2, q3⟩ := kid_cells hk0 (i := 0) (x := x) rfl hb1
  obtain ⟨g2, off2, k2, n2, s2, a2, m2, c2, he, hgr2, hgw2, hyv, g1', g2', g3', g4', p0, p1, p2, p3⟩ := kid_cells hk0 (i := 1) (x := y) rfl hb1
  obtain ⟨rfl, rfl⟩ : g = g2 ∧ off = off2 := by
    have := Option.some.inj he
    exact ⟨congrArg Addr.block this, congrArg Addr.off this⟩
  clear g1' g2' g3' g4' f2 f3 f4
  simp only [Nat.zero_mul, Nat.one_mul, Nat.add_zero] at q0 q1 q2 q3 p0 p1 p2 p3
  obtain ⟨y1, hy1⟩ : ∃ z, strB s1 = z := ⟨_, rfl⟩
  obtain ⟨y2, hy2⟩ : ∃ z, strB s2 = z := ⟨_, rfl⟩
  have et : (y1.toList == [45, 62]) = isArr x := by rw [toList_dec, ← hy1, strB_list, ← f1]; rfl
  rw [hy1] at hxv q2
  rw [hy2] at hyv p2
  have HCX : Hid (∀ W, Below W1.heap.size W1 W → Calls Tryd.prog 33 #[.agg #[.int .i64 k1, .int .i64 n1, .string y1, .slice a1 m1 c1]] W fun e w' => e = .returned (.string (strB (textL x))) ∧ Below W.heap.size W w') := fun W hW => hX S _ W (hxv.under hW) hokx (by omega)
  have HCY : Hid (∀ W, Below W1.heap.size W1 W → Calls Tryd.prog 33 #[.agg #[.int .i64 k2, .int .i64 n2, .string y2, .slice a2 m2 c2]] W fun e w' => e = .returned (.string (strB (textL y))) ∧ Below W.heap.size W w') := fun W hW => hY S _ W (hyv.under hW) hoky (by omega)
  obtain ⟨t, ht⟩ : ∃ t, isArr x = t := ⟨_, rfl⟩
  obtain ⟨X, hX9⟩ : ∃ X, textL x = X := ⟨_, rfl⟩
  obtain ⟨Y, hY9⟩ : ∃ Y, textL y = Y := ⟨_, rfl⟩
  rw [ht] at et
  rw [hX9] at HCX hxl
  rw [hY9] at HCY hyl
  rw [ht, hX9, hY9]
  have hL := held_len t X
  obtain ⟨zH, hzH⟩ : ∃ z, strB (held t X) = z := ⟨_, rfl⟩
  have c4 := fun W => @run_cat17 Tryd.prog (held t X) [32, 45, 62, 32] (held t X ++ [32, 45, 62, 32]) rfl (by simp; omega) W
  have c5 := fun W => @run_cat17 Tryd.prog (held t X ++ [32, 45, 62, 32]) Y (held t X ++ ([32, 45, 62, 32] ++ Y)) (by simp) (by simp; omega) W
  have c1' := fun W => @run_cat17 Tryd.prog [40] X (40 :: X) rfl (by simp; omega) W
  have c2' := fun W => @run_cat17 Tryd.prog (40 :: X) [41] (held true X) rfl (by simp; omega) W
  obtain ⟨zX, hzX⟩ : ∃ z, strB X = z := ⟨_, rfl⟩
  obtain ⟨zY, hzY⟩ : ∃ z, strB Y = z := ⟨_, rfl⟩
  obtain ⟨zE, hzE⟩ : ∃ z, strB (held t X ++ ([32, 45, 62, 32] ++ Y)) = z := ⟨_, rfl⟩
  obtain ⟨z3, hz3⟩ : ∃ z, strB (held t X ++ [32, 45, 62, 32]) = z := ⟨_, rfl⟩
  obtain ⟨z1', hz1'⟩ : ∃ z, strB (40 :: X) = z := ⟨_, rfl⟩
  rw [hzX] at c1' HCX
  rw [hzY] at c5 HCY
  rw [hz3] at c4 c5
  rw [hzE] at c5 ⊢
  rw [hz1'] at c1' c2'
  have r1 : W1.cell? ⟨g, off + 5, none⟩ = some (.int .i64 n2) := p1
  have r2 : W1.cell? ⟨g, off + 6, none⟩ = some (.string y2) := p2
  have r3 : W1.cell? ⟨g, off + 7, none⟩ = some (.slice a2 m2 c2) := p3
  have HP : Hid (W1.cell? ⟨g, off + 2, none⟩ = some (.string y1) ∧ W1.cell? ⟨g, off + 4, none⟩ = some (.int .i64 k2) ∧ W1.cell? ⟨g, off + 5, none⟩ = some (.int .i64 n2) ∧ W1.cell? ⟨g, off + 6, none⟩ = some (.string y2) ∧ W1.cell? ⟨g, off + 7, none⟩ = some (.slice a2 m2 c2)) := ⟨q2, p0, p1, p2, p3⟩
  have T8 : ∀ W, Sem.run Tryd.prog (Instr.indexAt 45 (.slice (some ⟨g, off, none⟩) 2 c) (.int .i64 0)) W = .ok (.pointer (some ⟨g, off, none⟩)) W := fun W => by go_simp
  have T9 : ∀ W, Sem.run Tryd.prog (Instr.indexAt 45 (.slice (some ⟨g, off, none⟩) 2 c) (.int .i64 1)) W = .ok (.pointer (some ⟨g, off + 4, none⟩)) W := fun W => by go_simp
  have k4 : ∀ W, Sem.run Tryd.prog (Op.stringOp .add zH ⟨#[32, 45, 62, 32]⟩) W = .ok (.string z3) W := by rw [← hzH]; exact c4
  have k1' : ∀ W, Sem.run Tryd.prog (Op.stringOp .add ⟨#[40]⟩ zX) W = .ok (.string z1') W := c1'
  have k2' : ∀ W, Sem.run Tryd.prog (Op.stringOp .add z1' ⟨#[41]⟩) W = .ok (.string (strB (held true X))) W := c2'
  have hWE := Lib.hid hW1
  clear c4 c1' c2' hX hY hokx hoky hxl hyl hnn hk hk0 HKA nt hz he hy1 hy2 hxv hyv f1 ht hX9 hY9 hL hzY hzE hz3 hz1' hb1 hbx hgr2 hgw2
  cases t
  · rw [held_false, hzX] at hzH
    subst hzH
    clear k2' hzX k1'
    go_enter Tryd.func33, Tryd.ntmps33
    go_upto_region 1 with fail
    try rw [hWE.out]
    try clear hW1
    go_upto_region 9 with (go_at_call 33; (with_reducible refine (HCX.out _ (Below.refl _ W1)).mono ?_); rintro e w2 ⟨rfl, hb2⟩; have HB2 := Lib.hid hb2; have hx2 := HBX.out.below hb2; obtain ⟨_, _, _, _⟩ := four_cells hx2; have hl2 := hx2.lt; obtain ⟨o0, o1, o2, o3, o4⟩ := HP.out; have u0 := (hb2.cell (p := ⟨g, off + 2, none⟩) hgr).trans o0; have u1 := (hb2.cell (p := ⟨g, off + 4, none⟩) hgr).trans o1; have u2 := (hb2.cell (p := ⟨g, off + 5, none⟩) hgr).trans o2; have u2' : w2.cell? ⟨g, off + 4 + 1, none⟩ = _ := u2; have u3 := (hb2.cell (p := ⟨g, off + 6, none⟩) hgr).trans o3; have u3' : w2.cell? ⟨g, off + 4 + 2, none⟩ = _ := u3; have u4 := (hb2.cell (p := ⟨g, off + 7, none⟩) hgr).trans o4; have u4' : w2.cell? ⟨g, off + 4 + 3, none⟩ = _ := u4; have hg2 : g < w2.heap.size := Nat.lt_of_lt_of_le hgr hb2.size; clear hb2 hx2 o0 o1 o2 o3 o4)
    go_wp2_with (go_at_call 33; (with_reducible refine (HCY.out _ HB2.out).mono ?_); rintro e w3 ⟨rfl, hb3⟩; have HB3 := Lib.hid (HB1.out.trans ((HB2.out.trans (hb3.mono HB2.out.size)).mono HB1.out.size)); clear hb3)
    go_ret
    exact ⟨rfl, HB3.out⟩
  · rw [hzH] at k2'
    clear hzX hzH
    go_enter Tryd.func33, Tryd.ntmps33
    go_upto_region 1 with fail
    try rw [hWE.out]
    try clear hW1
    go_upto_region 9 with (go_at_call 33; (with_reducible refine (HCX.out _ (Below.refl _ W1)).mono ?_); rintro e w2 ⟨rfl, hb2⟩; have HB2 := Lib.hid hb2; have hx2 := HBX.out.below hb2; obtain ⟨_, _, _, _⟩ := four_cells hx2; have hl2 := hx2.lt; obtain ⟨o0, o1, o2, o3, o4⟩ := HP.out; have u0 := (hb2.cell (p := ⟨g, off + 2, none⟩) hgr).trans o0; have u1 := (hb2.cell (p := ⟨g, off + 4, none⟩) hgr).trans o1; have u2 := (hb2.cell (p := ⟨g, off + 5, none⟩) hgr).trans o2; have u2' : w2.cell? ⟨g, off + 4 + 1, none⟩ = _ := u2; have u3 := (hb2.cell (p := ⟨g, off + 6, none⟩) hgr).trans o3; have u3' : w2.cell? ⟨g, off + 4 + 2, none⟩ = _ := u3; have u4 := (hb2.cell (p := ⟨g, off + 7, none⟩) hgr).trans o4; have u4' : w2.cell? ⟨g, off + 4 + 3, none⟩ = _ := u4; have hg2 : g < w2.heap.size := Nat.lt_of_lt_of_le hgr hb2.size; clear hb2 hx2 o0 o1 o2 o3 o4)
    go_wp2_with (go_at_call 33; (with_reducible refine (HCY.out _ HB2.out).mono ?_); rintro e w3 ⟨rfl, hb3⟩; have HB3 := Lib.hid (HB1.out.trans ((HB2.out.trans (hb3.mono HB2.out.size)).mono HB1.out.size)); clear hb3)
    go_ret
    exact ⟨rfl, HB3.out⟩

set_option maxRecDepth 100000 in
set_option maxHeartbeats 8000000 in
theorem rtx_tup (n : Int) (z : ByteArray) (kids : List Ty) (hX : ∀ x ∈ kids, RTX x) (hok : ∀ x ∈ kids, okT x) (S : Nat → Prop) (w : World) (a : Option Addr) (m c : Nat) (hm : kids.length = m) (hm2 : m ≤ 1000) (hnn : 130 * (1 + Ty.nns kids) ≤ 10000000000000) (hk : InC S w (.s kids.length 4 (kids.flatMap tyC)) (.slice a m c)) (hz : z.data.toList = tComma) :
    Calls Tryd.prog 33 #[.agg #[.int .i64 2, .int .i64 n, .string z, .slice a m c]] w fun e w' => e = .returned (.string (strB (40 :: (joinC (kids.map textL) ++ [41])))) ∧ Below w.heap.size w w' := by
  obtain ⟨W1, hW1⟩ : ∃ W1, w.alloc (.cells #[.int .i64 2, .int .i64 n, .string z, .slice a m c] 47) = W1 := ⟨_, rfl⟩
  have hb1 : Below w.heap.size w W1 := hW1 ▸ (Below.refl _ w).alloc (Nat.le_refl _) _
  have hbx : Box W1 w.heap.size 47 [.int .i64 2, .int .i64 n, .string z, .slice a m c] := hW1 ▸ Box.new w 47 [.int .i64 2, .int .i64 n, .string z, .slice a m c]
  have HB1 := Lib.hid hb1
  have HBX := Lib.hid hbx
  have HK := Lib.hid hk
  have HM := Lib.hid hm
  have HX := Lib.hid hX
  have HOK := Lib.hid hok
  have HNN := Lib.hid hnn
  obtain ⟨_, _, _, _⟩ := four_cells hbx
  have hl1 := hbx.lt
  have nt := NTest.of hz
  have ht1 := nt.e1
  have ht2 := nt.e2
  rw [show decide (tComma = tArrow) = false from by decide] at ht1
  rw [decide_eq_true rfl] at ht2
  have HWE := Lib.hid hW1
  clear hb1 hbx hk hm hX hok hnn nt hz
  go_enter Tryd.func33, Tryd.ntmps33
  go_upto_region 1 with fail
  try rw [HWE.out]
  try clear hW1
  go_wp2_with fail
  go_loopw [5, 6] (fun sv iv wr => ∃ i : Nat, i ≤ m ∧ iv = .int .i64 (i : Int) ∧ sv = .string (strB (40 :: joinC ((kids.take i).map textL))) ∧ Hid (Below W1.heap.size W1 wr)) (fun _ iv _ => m - (intOf iv).toNat)
  case atStart => exact ⟨0, Nat.zero_le _, rfl, rfl, Below.refl _ _⟩
  case round =>
    obtain ⟨i, hi, rfl, rfl, HB⟩ := hrel
    have hby := HBX.out.below HB.out
    obtain ⟨_, _, _, _⟩ := four_cells hby
    have hyl := hby.lt
    have hGw := HB1.out.trans (HB.out.mono HB1.out.size)
    have HGW := Lib.hid hGw
    have hjl := joinC_len ((kids.take i).map textL)
    rw [List.length_map, List.length_take, HM.out] at hjl
    have hsl := sumL_le (kids.take i) (fun x hx => HOK.out x (List.mem_of_mem_take hx))
    have hnt := Ty.nns_len (kids.take i)
    rw [List.length_take, HM.out] at hnt
    have hln := HNN.out
    by_cases hlt : i < m
    · obtain ⟨x, hx⟩ : ∃ x, kids[i]? = some x := ⟨_, List.getElem?_eq_getElem (by rw [HM.out]; exact hlt)⟩
      have hxm := List.mem_of_getElem? hx
      obtain ⟨g, off, k', n', s', a', m', c', rfl, hgr, hgw, hxv, f1, f2, f3, f4, q0, q1, q2, q3⟩ := kid_cells HK.out hx hGw
      clear f1 f2 f3 f4
      obtain ⟨z', hz'⟩ : ∃ z', strB s' = z' := ⟨_, rfl⟩
      rw [hz'] at hxv q2
      have hns := nns_snoc17 hx
      have hnk := Ty.nns_take kids (i + 1)
      have hxl := okT_len (HOK.out x hxm)
      have HC := Lib.hid (HX.out x hxm S _ wr hxv (HOK.out x hxm) (by omega))
      have htk : (kids.take (i + 1)).map textL = (kids.take i).map textL ++ [textL x] := by rw [take_snoc' hx, List.map_append]; rfl
      obtain ⟨J, hJ⟩ : ∃ J, (kids.take i).map textL = J := ⟨_, rfl⟩
      have hJl : J.length = i := by rw [← hJ, List.length_map, List.length_take, HM.out]; omega
      rw [hJ] at htk hjl ⊢
      have hsl' : (J.map List.length).sum ≤ 120 * Ty.nns (kids.take i) := by rw [← hJ]; exact hsl
      obtain ⟨X, hX9⟩ : ∃ X, textL x = X := ⟨_, rfl⟩
      rw [hX9] at HC htk hxl
      have T1 : ∀ W, Sem.run Tryd.prog (Instr.indexAt 45 (.slice (some ⟨g, off, none⟩) m c) (.int .i64 (i : Int))) W = .ok (.pointer (some ⟨g, off + i * 4, none⟩)) W := fun W => by go_simp
      have hbw := hGw.size
      by_cases h0 : i = 0
      · have hJ0 : J = [] := List.eq_nil_of_length_eq_zero (by omega)
        have c2 := fun W => @run_cat17 Tryd.prog (40 :: joinC J) X (40 :: joinC (J ++ [X])) (by rw [hJ0]; simp [joinC]) (by simp; omega) W
        obtain ⟨zP, hzP⟩ : ∃ z, strB (40 :: joinC J) = z := ⟨_, rfl⟩
        obtain ⟨zN, hzN⟩ : ∃ z, strB (40 :: joinC (J ++ [X])) = z := ⟨_, rfl⟩
        obtain ⟨zX, hzX⟩ : ∃ z, strB X = z := ⟨_, rfl⟩
        rw [hzX] at HC
        rw [hzP, hzX, hzN] at c2
        rw [hzP]
        rw [← htk] at hzN
        have HZN := Lib.hid hzN
        have e0 : decide ((0 : Int) < (i : Int)) = false := decide_eq_false (by omega)
        have e0' : decide (0 < i) = false := decide_eq_false (by omega)
        clear hx hz' hxv hby hjl hsl hnt hln hns hnk hxl htk hJ hJl hsl' hX9 h0 hJ0 hzP hzN hzX hGw
        go_wp2_with (go_at_call 33; (with_reducible refine (HC.out).mono ?_); rintro e w2 ⟨rfl, hb2⟩; have HB2 := Lib.hid (HB.out.trans (hb2.mono HB.out.size)); clear hb2)
        go_roundw
        case rel => exact ⟨i + 1, by omega, by go_num, by rw [HZN.out], HB2⟩
        case measure => simp [intOf]; omega
      · have c1 := fun W => @run_cat17 Tryd.prog (40 :: joinC J) [44, 32] (40 :: joinC J ++ [44, 32]) rfl (by simp; omega) W
        have c2 := fun W => @run_cat17 Tryd.prog (40 :: joinC J ++ [44, 32]) X (40 :: joinC (J ++ [X])) (by rw [joinC_snoc J X (by intro e; subst e; simp at hJl; omega)]; simp) (by simp; omega) W
        obtain ⟨zP, hzP⟩ : ∃ z, strB (40 :: joinC J) = z := ⟨_, rfl⟩
        obtain ⟨zQ, hzQ⟩ : ∃ z, strB (40 :: joinC J ++ [44, 32]) = z := ⟨_, rfl⟩
        obtain ⟨zN, hzN⟩ : ∃ z, strB (40 :: joinC (J ++ [X])) = z := ⟨_, rfl⟩
        obtain ⟨zX, hzX⟩ : ∃ z, strB X = z := ⟨_, rfl⟩
        rw [hzX] at HC
        rw [hzQ, hzX, hzN] at c2
        have c1' : ∀ W, Sem.run Tryd.prog (Op.stringOp .add zP ⟨#[44, 32]⟩) W = .ok (.string zQ) W := by rw [← hzP, ← hzQ]; exact c1
        rw [hzP]
        rw [← htk] at hzN
        have HZN := Lib.hid hzN
        have e0 : decide ((0 : Int) < (i : Int)) = true := decide_eq_true (by omega)
        have e0' : decide (0 < i) = true := decide_eq_true (by omega)
        clear hx hz' hxv hby hjl hsl hnt hln hns hnk hxl htk hJ hJl hsl' hX9 h0 hzP hzQ hzN hzX hGw c1
        go_wp2_with (go_at_call 33; (with_reducible refine (HC.out).mono ?_); rintro e w2 ⟨rfl, hb2⟩; have HB2 := Lib.hid (HB.out.trans (hb2.mono HB.out.size)); clear hb2)
        go_roundw
        case rel => exact ⟨i + 1, by omega, by go_num, by rw [HZN.out], HB2⟩
        case measure => simp [intOf]; omega
    · have him : i = m := by omega
      subst him
      have htk : (kids.take i).map textL = kids.map textL := by rw [List.take_of_length_le (by rw [HM.out]; exact Nat.le_refl _)]
      rw [htk]
      rw [htk] at hjl
      have hnk := Ty.nns_take kids i
      have hsl' : ((kids.map textL).map List.length).sum ≤ 120 * Ty.nns (kids.take i) := by rw [← htk]; exact hsl
      have c1 := fun W => @run_cat17 Tryd.prog (40 :: joinC (kids.map textL)) [41] (40 :: (joinC (kids.map textL) ++ [41])) rfl (by simp; omega) W
      obtain ⟨zP, hzP⟩ : ∃ z, strB (40 :: joinC (kids.map textL)) = z := ⟨_, rfl⟩
      obtain ⟨zE, hzE⟩ : ∃ z, strB (40 :: (joinC (kids.map textL) ++ [41])) = z := ⟨_, rfl⟩
      have c1' : ∀ W, Sem.run Tryd.prog (Op.stringOp .add zP ⟨#[41]⟩) W = .ok (.string zE) W := by rw [← hzP, ← hzE]; exact c1
      rw [hzP]
      have HZE := Lib.hid hzE
      clear hby hjl hsl hnt hln hnk hsl' hzP hzE hGw c1 htk
      go_wp2_with fail
      go_ret
      exact ⟨ret_of (by rw [HZE.out]; rfl), HGW.out⟩

set_option maxRecDepth 100000 in
set_option maxHeartbeats 8000000 in
theorem rtx_nam (n : Int) (z : ByteArray) (s : By) (hs : s.length ≤ 30) (h1 : s ≠ tArrow) (h2 : s ≠ tComma) (kids : List Ty) (hX : ∀ x ∈ kids, RTX x) (hok : ∀ x ∈ kids, okT x) (S : Nat → Prop) (w : World) (a : Option Addr) (m c : Nat) (hm : kids.length = m) (hm2 : m ≤ 1000) (hnn : 130 * (1 + Ty.nns kids) ≤ 10000000000000) (hk : InC S w (.s kids.length 4 (kids.flatMap tyC)) (.slice a m c)) (hz : z.data.toList = s) :
    Calls Tryd.prog 33 #[.agg #[.int .i64 2, .int .i64 n, .string z, .slice a m c]] w fun e w' => e = .returned (.string (strB (preN s kids))) ∧ Below w.heap.size w w' := by
  obtain ⟨W1, hW1⟩ : ∃ W1, w.alloc (.cells #[.int .i64 2, .int .i64 n, .string z, .slice a m c] 47) = W1 := ⟨_, rfl⟩
  have hb1 : Below w.heap.size w W1 := hW1 ▸ (Below.refl _ w).alloc (Nat.le_refl _) _
  have hbx : Box W1 w.heap.size 47 [.int .i64 2, .int .i64 n, .string z, .slice a m c] := hW1 ▸ Box.new w 47 [.int .i64 2, .int .i64 n, .string z, .slice a m c]
  have HB1 := Lib.hid hb1
  have HBX := Lib.hid hbx
  have HK := Lib.hid hk
  have HM := Lib.hid hm
  have HX := Lib.hid hX
  have HOK := Lib.hid hok
  have HNN := Lib.hid hnn
  obtain ⟨_, _, _, _⟩ := four_cells hbx
  have hl1 := hbx.lt
  have nt := NTest.of hz
  have ht1 := nt.e1
  have ht2 := nt.e2
  have hz0 : strB s = z := by rw [← hz]; rfl
  have hps : strB (preN s (kids.take 0)) = z := by rw [← hz0]; simp [preN]
  have HPS := Lib.hid hps
  rw [decide_eq_false h1] at ht1
  rw [decide_eq_false h2] at ht2
  clear hz0 hps h1 h2
  have HWE := Lib.hid hW1
  clear hb1 hbx hk hm hX hok hnn nt hz
  go_enter Tryd.func33, Tryd.ntmps33
  go_upto_region 1 with fail
  try rw [HWE.out]
  try clear hW1
  go_wp2_with fail
  go_loopw [7, 8] (fun sv iv wr => ∃ i : Nat, i ≤ m ∧ iv = .int .i64 (i : Int) ∧ sv = .string (strB (preN s (kids.take i))) ∧ Hid (Below W1.heap.size W1 wr)) (fun _ iv _ => m - (intOf iv).toNat)
  case atStart => exact ⟨0, Nat.zero_le _, rfl, by rw [HPS.out], Below.refl _ _⟩
  case round =>
    obtain ⟨i, hi, rfl, rfl, HB⟩ := hrel
    have hby := HBX.out.below HB.out
    obtain ⟨_, _, _, _⟩ := four_cells hby
    have hyl := hby.lt
    have hGw := HB1.out.trans (HB.out.mono HB1.out.size)
    have HGW := Lib.hid hGw
    have hpl := preN_len s (kids.take i) (fun x hx => HOK.out x (List.mem_of_mem_take hx))
    have hnt := Ty.nns_len (kids.take i)
    have hln := HNN.out
    obtain ⟨P, hP⟩ : ∃ P, preN s (kids.take i) = P := ⟨_, rfl⟩
    rw [hP] at hpl ⊢
    by_cases hlt : i < m
    · obtain ⟨x, hx⟩ : ∃ x, kids[i]? = some x := ⟨_, List.getElem?_eq_getElem (by rw [HM.out]; exact hlt)⟩
      have hxm := List.mem_of_getElem? hx
      obtain ⟨g, off, k', n', s', a', m', c', rfl, hgr, hgw, hxv, f1, f2, f3, f4, q0, q1, q2, q3⟩ := kid_cells HK.out hx hGw
      have hheld : isHeld x = (decide (s' = tArrow) || (decide (x.kids ≠ []) && decide (s' ≠ tComma))) := by rw [← f1]; rfl
      obtain ⟨z', hz'⟩ : ∃ z', strB s' = z' := ⟨_, rfl⟩
      have et0 : (z'.toList == [45, 62]) = decide (s' = tArrow) := by rw [toList_dec, ← hz', strB_list]; rfl
      have et : (z'.toList == [44]) = decide (s' = tComma) := by rw [toList_dec, ← hz', strB_list]; rfl
      rw [hz'] at hxv q2
      have ekid : decide ((0 : Int) < (m' : Int)) = decide (x.kids ≠ []) := by
        rw [f4, Bool.eq_iff_iff]; simp only [decide_eq_true_eq]
        constructor
        · intro h e; rw [e] at h; simp at h
        · intro h
          have := List.length_pos_iff.2 h; omega
      have ekidN : decide (0 < m') = decide (x.kids ≠ []) := by
        rw [← ekid, Bool.eq_iff_iff]; simp only [decide_eq_true_eq]; omega
      clear f1 f2 f3 f4
      obtain ⟨t0, ht0⟩ : ∃ t0, decide (s' = tArrow) = t0 := ⟨_, rfl⟩
      obtain ⟨t1, ht1'⟩ : ∃ t1, decide (x.kids ≠ []) = t1 := ⟨_, rfl⟩
      obtain ⟨t2, ht2'⟩ : ∃ t2, decide (s' = tComma) = t2 := ⟨_, rfl⟩
      have ht3 : decide (s' ≠ tComma) = !t2 := by rw [← ht2']; simp
      rw [ht1'] at ekid ekidN
      rw [ht2'] at et
      rw [ht0] at et0
      rw [ht0, ht1', ht3] at hheld
      have en : (!(z'.toList == [44])) = !t2 := by rw [et]
      have hns := nns_snoc17 hx
      have hnk := Ty.nns_take kids (i + 1)
      have hnl2 := Ty.nns_len (kids.take i)
      have hxl := okT_len (HOK.out x hxm)
      have hkl : (kids.take i).length ≤ m := by rw [List.length_take, HM.out]; omega
      obtain ⟨W5, hW5⟩ : ∃ W5, wr.alloc (.cells #[.int .i64 k', .int .i64 n', .string z', .slice a' m' c'] 47) = W5 := ⟨_, rfl⟩
      have hb5 : Below wr.heap.size wr W5 := hW5 ▸ (Below.refl _ wr).alloc (Nat.le_refl _) _
      have hk5 : Box W5 wr.heap.size 47 [.int .i64 k', .int .i64 n', .string z', .slice a' m' c'] := hW5 ▸ Box.new wr 47 [.int .i64 k', .int .i64 n', .string z', .slice a' m' c']
      have HK5 := Lib.hid hk5
      have HB5 := Lib.hid (HB.out.trans (hb5.mono HB.out.size))
      have hkl5 := hk5.lt
      obtain ⟨_, _, _, _⟩ := four_cells hk5
      have HC := Lib.hid (HX.out x hxm S _ W5 (hxv.under hb5) (HOK.out x hxm) (by omega))
      have hpn : preN s (kids.take (i + 1)) = P ++ [32] ++ held (t0 || (t1 && !t2)) (textL x) := by rw [take_snoc' hx, preN_snoc, hP, hheld]
      obtain ⟨X, hX9⟩ : ∃ X, textL x = X := ⟨_, rfl⟩
      rw [hX9] at HC hpn hxl
      have hhl := held_len (t0 || (t1 && !t2)) X
      have c1 := fun W => @run_cat17 Tryd.prog [40] X (40 :: X) rfl (by simp; omega) W
      have c2 := fun W => @run_cat17 Tryd.prog (40 :: X) [41] (held true X) rfl (by simp; omega) W
      have c3 := fun W => @run_cat17 Tryd.prog P [32] (P ++ [32]) rfl (by simp; omega) W
      have c4 := fun W => @run_cat17 Tryd.prog (P ++ [32]) (held (t0 || (t1 && !t2)) X) (P ++ [32] ++ held (t0 || (t1 && !t2)) X) rfl (by simp; omega) W
      obtain ⟨zX, hzX⟩ : ∃ z, strB X = z := ⟨_, rfl⟩
      obtain ⟨z1, hz1⟩ : ∃ z, strB (40 :: X) = z := ⟨_, rfl⟩
      obtain ⟨zT, hzT⟩ : ∃ z, strB (held true X) = z := ⟨_, rfl⟩
      obtain ⟨zP, hzP⟩ : ∃ z, strB P = z := ⟨_, rfl⟩
      obtain ⟨zQ, hzQ⟩ : ∃ z, strB (P ++ [32]) = z := ⟨_, rfl⟩
      obtain ⟨zN, hzN⟩ : ∃ z, strB (P ++ [32] ++ held (t0 || (t1 && !t2)) X) = z := ⟨_, rfl⟩
      have HZN : Hid (strB (preN s (kids.take (i + 1))) = zN) := by show _ = _; rw [hpn]; exact hzN
      have d1 : ∀ W, Sem.run Tryd.prog (Op.stringOp .add ⟨#[40]⟩ zX) W = .ok (.string z1) W := by rw [← hzX, ← hz1]; exact c1
      have d2 : ∀ W, Sem.run Tryd.prog (Op.stringOp .add z1 ⟨#[41]⟩) W = .ok (.string zT) W := by rw [← hz1, ← hzT]; exact c2
      have d3 : ∀ W, Sem.run Tryd.prog (Op.stringOp .add zP ⟨#[32]⟩) W = .ok (.string zQ) W := by rw [← hzP, ← hzQ]; exact c3
      have D4 : Hid (∀ W, Sem.run Tryd.prog (Op.stringOp .add zQ (bif (t0 || (t1 && !t2)) then zT else zX)) W = .ok (.string zN) W) := by
        show ∀ W, _
        have e : strB (held (t0 || (t1 && !t2)) X) = (bif (t0 || (t1 && !t2)) then zT else zX) := by
          cases (t0 || (t1 && !t2))
          · rw [held_false]; exact hzX
          · exact hzT
        rw [← e, ← hzQ, ← hzN]; exact c4
      rw [hzX] at HC
      rw [hzP]
      have T1 : ∀ W, Sem.run Tryd.prog (Instr.indexAt 45 (.slice (some ⟨g, off, none⟩) m c) (.int .i64 (i : Int))) W = .ok (.pointer (some ⟨g, off + i * 4, none⟩)) W := fun W => by go_simp
      have HWF := Lib.hid hW5
      clear hx hz' hxv hby hpl hnt hln hns hnk hnl2 hxl hkl hP hheld ht0 ht1' ht2' ht3 hX9 hzX hz1 hzT hzP hzQ hzN hpn hhl c1 c2 c3 c4 hGw hb5 hk5 hW5
      cases t0 <;> cases t1 <;> cases t2
      all_goals first
        | have d4 : ∀ W, Sem.run Tryd.prog (Op.stringOp .add zQ zT) W = .ok (.string zN) W := D4.out
        | have d4 : ∀ W, Sem.run Tryd.prog (Op.stringOp .add zQ zX) W = .ok (.string zN) W := D4.out
      all_goals
        go_upto_region 26 with fail
        try rw [HWF.out]
        go_wp2_with (go_at_call 33; (with_reducible refine (HC.out).mono ?_); rintro e w2 ⟨rfl, hb2⟩; have HB2 := Lib.hid (HB5.out.trans (hb2.mono HB5.out.size)); have hk2 := HK5.out.below hb2; obtain ⟨_, _, _, _⟩ := four_cells hk2; have hkl2 := hk2.lt; clear hb2 hk2)
        go_roundw
        case rel => exact ⟨i + 1, by omega, by go_num, by rw [HZN.out], HB2⟩
        case measure => (simp [intOf]; omega)
    · have him : i = m := by omega
      subst him
      have hP0 : P = preN s kids := by rw [← hP, List.take_of_length_le (by rw [HM.out]; exact Nat.le_refl _)]
      have HP0 := Lib.hid hP0
      clear hby hpl hnt hln hP hP0 hGw
      go_wp2_with fail
      go_ret
      exact ⟨ret_of (by rw [← HP0.out]; rfl), HGW.out⟩

/-- The document's Text, of what may be. -/
theorem r_Text (x : Ty) : RTX x := by
  refine Ty.ind (P := RTX) (fun k n s kids ih => ?_) x
  intro S u w hv hok hnn
  obtain ⟨a, c, rfl, hk⟩ := hv.ty
  rw [tysC_eq] at hk
  have hkok := (okT_head hok).2
  simp only [Ty.nn] at hnn
  rcases okT_cases hok with ⟨q, rfl, rfl, hq, rfl, rfl⟩ | ⟨rfl, rfl, x, y, rfl⟩ | ⟨rfl, rfl, h2, h8⟩ | ⟨rfl, h1, h2, h30, h20⟩
  · rw [textL_var]; exact rtx_var q hq w a c
  · rw [textL_arr]
    exact rtx_arr n x y (ih x (by simp)) (ih y (by simp)) (hkok x (by simp)) (hkok y (by simp)) S w a c (by simp only [Ty.nns] at hnn; omega) hk _ (strB_list _)
  · rw [textL_com]
    exact rtx_tup n _ kids ih hkok S w a kids.length c rfl (by omega) hnn hk (strB_list _)
  · rw [textL_nam n s kids h1 h2]
    exact rtx_nam n _ s h30 h1 h2 kids ih hkok S w a kids.length c rfl (by omega) hnn hk (strB_list _)

end Go.Proofs.YtpfcpeljfgmjgaaDoor
