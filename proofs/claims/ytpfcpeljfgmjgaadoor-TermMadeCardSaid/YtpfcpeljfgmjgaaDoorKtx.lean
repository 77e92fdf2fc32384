/- Package term's writer: types as text. -/
import Derived.Test.YtpfcpeljfgmjgaaDoorKwr
import Derived.Test.YtpfcpeljfgmjgaaDoorKfv
import Derived.Test.YtpfcpeljfgmjgaaDoorKmt
import Derived.Deep.RegionWith
namespace Go.Proofs.YtpfcpeljfgmjgaaDoor
open Go.RowKit Go.Maps
set_option linter.unusedVariables false
set_option linter.unusedSimpArgs false

/-- strconv.Itoa tells this number's digits, in whatever world there comes. -/
def ITW (B : Nat) (w : World) (n : Nat) : Prop := ∀ w', Below B w w' → Calls Tryd.prog 114 #[.int .i64 (n : Int)] w' fun e w'' => e = .returned (.string (strB (Lib.decDigits n))) ∧ Below w'.heap.size w' w''
theorem ITW.mono {B : Nat} {w w' : World} {n : Nat} (h : ITW B w n) (hb : Below B w w') : ITW B w' n := fun w'' h'' => h w'' (hb.trans h'')
def ITs (B : Nat) (w : World) (x : Ty) : Prop := ∀ v ∈ x.vs, 26 ≤ v → ITW B w (v.toNat / 26)
theorem Wrote.then {B b : Nat} {l l' : By} {w w' w'' : World} (h : Wrote B b l w w') (k : Wrote B b l' w' w'') : Wrote B b l' w w'' := ⟨k.1, h.2.trans k.2⟩

set_option maxRecDepth 100000 in
set_option maxHeartbeats 4000000 in
theorem wr_variable (w : World) (B b : Nat) (l : By) (n : Nat) (h : WS w B b l) (hn : n ≤ 2147483647) (hlen : l.length + 130 ≤ 10000000000000) (hB : B ≤ w.heap.size) (hit : 26 ≤ n → ITW B w (n / 26)) :
    Calls Tryd.prog 91 #[.pointer (some ⟨b, 0, none⟩), .int .i64 (n : Int)] w fun e w' => e = .returned (.tuple #[]) ∧ Wrote B b (l ++ varTx (n : Int)) w w' := by
  have hc : (UInt8.ofNat (97 + n % 26)).toNat = 97 + n % 26 := by rw [UInt8.toNat_ofNat']; omega
  obtain ⟨q, hq⟩ : ∃ q, n % 26 = q := ⟨_, rfl⟩
  have hq26 : q < 26 := by omega
  have HW := Lib.hid (ty_WriteByte w B b l (UInt8.ofNat (97 + n % 26)) (97 + (q : Int)) (by rw [hc]; omega) h (by omega) hB)
  have hbl := h.lt
  have er : (n : Int).tmod 26 = (q : Int) := by rw [Int.tmod_eq_emod_of_nonneg (by omega)]; omega
  have er2 : (n : Int) % 26 = (q : Int) := by omega
  by_cases h26 : 26 ≤ n
  · have e1 : decide ((26 : Int) ≤ (n : Int)) = true := decide_eq_true (by omega)
    have e2 : decide (26 ≤ n) = true := decide_eq_true h26
    obtain ⟨d, hd⟩ : ∃ d, n / 26 = d := ⟨_, rfl⟩
    have ed : (n : Int).tdiv 26 = (d : Int) := by rw [Int.tdiv_eq_ediv_of_nonneg (by omega)]; omega
    have ed2 : (n : Int) / 26 = (d : Int) := by omega
    have hdl : d ≤ 100000000 := by omega
    have ew : IntKind.i64.wrap (d : Int) = (d : Int) := by rw [IntKind.wrap_i64]; omega
    have hx := hit h26
    rw [hd] at hx
    have HI := Lib.hid hx
    have HT : Hid (varTx (n : Int) = UInt8.ofNat (97 + n % 26) :: Lib.decDigits d) := by show _ = _; unfold varTx; rw [if_pos (by omega), ← hd]; rfl
    have hdd : (Lib.decDigits d).length ≤ 20 := by
      have := decDigits_le 9 d (by omega); omega
    have HS : Hid (∀ w', WS w' B b (l ++ [UInt8.ofNat (97 + n % 26)]) → B ≤ w'.heap.size → Calls Tryd.prog 113 #[.pointer (some ⟨b, 0, none⟩), .string (strB (Lib.decDigits d))] w' fun e w'' => (∃ m : Nat, e = .returned (.tuple #[.int .i64 m, .nilIface])) ∧ Wrote B b (l ++ varTx (n : Int)) w' w'') := fun w' hw hB' => by
      have := ty_WriteString w' B b _ (Lib.decDigits d) (strB (Lib.decDigits d)) (by simp [strB]) hw (by rw [List.length_append]; simp; omega) hB'
      rw [HT.out]
      simpa using this
    obtain ⟨zd, hzd⟩ : ∃ zd, strB (Lib.decDigits d) = zd := ⟨_, rfl⟩
    have HI2 : Hid (∀ w', Below B w w' → Calls Tryd.prog 114 #[.int .i64 (d : Int)] w' fun e w'' => e = .returned (.string zd) ∧ Below w'.heap.size w' w'') := by show ∀ w', _; intro w' hw'; rw [← hzd]; exact HI.out w' hw'
    rw [hzd] at HS
    clear h hc hq hit hd h26 hx HI hzd HT hdd
    go_enter Tryd.func91, Tryd.ntmps91
    go_upto_region 2 with (go_at_call 112; (with_reducible refine (HW.out).mono ?_); rintro e w1 ⟨rfl, hw1⟩; have HW1 := Lib.hid hw1; have HS1 := Lib.hid hw1.1; have HF1 := Lib.hid hw1.2; have hs1 := hw1.2.size; have hbl1 := hw1.1.lt; clear hw1)
    go_region_with (first
      | (go_at_call 114; (with_reducible refine (HI2.out _ HF1.out.bel.drew).mono ?_); rintro e w2 ⟨rfl, hb2⟩; have hb3 : Below w1.heap.size w1 w2 := (Below.refl _ w1).drew.trans hb2; have HF2 : Hid (WS w2 B b (l ++ [UInt8.ofNat (97 + n % 26)]) ∧ Fr B (fun q => q = b) 5 w w2) := ⟨HS1.out.agree hb3, HF1.out.next hb3 hB⟩; have hB2 : B ≤ w2.heap.size := Nat.le_trans hB HF2.out.2.size; clear hb2 hb3)
      | (go_at_call 113; (with_reducible refine (HS.out _ HF2.out.1 hB2).mono ?_); rintro e w3 ⟨⟨mm, rfl⟩, hw3⟩; have HW3 : Hid (Wrote B b (l ++ varTx (n : Int)) w w3) := ⟨hw3.1, HF2.out.2.trans hw3.2⟩; clear hw3))
    all_goals go_wp2_with fail
    all_goals go_end0
    all_goals exact ⟨rfl, HW3.out⟩
  · have e1 : decide ((26 : Int) ≤ (n : Int)) = false := decide_eq_false (by omega)
    have e2 : decide (26 ≤ n) = false := decide_eq_false h26
    have HT : Hid (varTx (n : Int) = [UInt8.ofNat (97 + n % 26)]) := by show _ = _; unfold varTx; rw [if_neg (by omega)]; rfl
    clear h hc hq hit h26
    go_enter Tryd.func91, Tryd.ntmps91
    go_wp2_with (go_at_call 112; (with_reducible refine (HW.out).mono ?_); rintro e w1 ⟨rfl, hw1⟩; have HW1 := Lib.hid hw1; have HS1 := Lib.hid hw1.1; have HF1 := Lib.hid hw1.2; have hs1 := hw1.2.size; have hbl1 := hw1.1.lt; clear hw1)
    go_end0
    refine ⟨rfl, ?_⟩
    rw [HT.out]; exact HW1.out

/-- typ writes this type. -/
def TypB (x : Ty) : Prop := ∀ (B b : Nat) (l : By) (u : Value) (w : World), WS w B b l → IsV (fun q => q < B) w (tyC x) u → okT x → ITs B w x → l.length + 130 * x.nn ≤ 10000000000000 → B ≤ w.heap.size →
  Calls Tryd.prog 63 #[.pointer (some ⟨b, 0, none⟩), u] w fun e w' => e = .returned (.tuple #[]) ∧ Wrote B b (l ++ textL x) w w'
theorem okT_len {x : Ty} (h : okT x) : (textL x).length ≤ 120 * x.nn := by obtain ⟨d, h⟩ := h; exact textL_len d x h
set_option maxRecDepth 100000 in
set_option maxHeartbeats 4000000 in
theorem wr_held (x : Ty) (hX : TypB x) (t : Bool) (w : World) (B b : Nat) (l : By) (u : Value) (h : WS w B b l) (hv : IsV (fun q => q < B) w (tyC x) u) (hok : okT x) (hit : ITs B w x) (hlen : l.length + 130 * x.nn + 3 ≤ 10000000000000) (hB : B ≤ w.heap.size) :
    Calls Tryd.prog 115 #[.pointer (some ⟨b, 0, none⟩), u, .bool t] w fun e w' => e = .returned (.tuple #[]) ∧ Wrote B b (l ++ held t (textL x)) w w' := by
  have hxl := okT_len hok
  have HTY : Hid (∀ (w' : World) (l' : By), Below B w w' → WS w' B b l' → l'.length ≤ l.length + 1 → B ≤ w'.heap.size → Calls Tryd.prog 63 #[.pointer (some ⟨b, 0, none⟩), u] w' fun e w'' => e = .returned (.tuple #[]) ∧ Wrote B b (l' ++ textL x) w' w'') := fun w' l' hb hw hl hB' =>
    hX B b l' u w' hw (hv.belowB hb) hok (fun v hv h26 => (hit v hv h26).mono hb) (by omega) hB'
  obtain ⟨k, n, s, a, m, c, rfl⟩ := hv.tys
  obtain ⟨z, hz⟩ : ∃ z, strB s = z := ⟨_, rfl⟩
  rw [hz] at HTY ⊢
  obtain ⟨X, hX9⟩ : ∃ X, textL x = X := ⟨_, rfl⟩
  rw [hX9] at HTY ⊢
  obtain ⟨W1, hW1⟩ : ∃ W1, w.alloc (.cells #[.int .i64 k, .int .i64 n, .string z, .slice a m c] 47) = W1 := ⟨_, rfl⟩
  have hb1 : Below w.heap.size w W1 := hW1 ▸ (Below.refl _ w).alloc (Nat.le_refl _) _
  have hbx : Box W1 w.heap.size 47 [.int .i64 k, .int .i64 n, .string z, .slice a m c] := hW1 ▸ Box.new w 47 [.int .i64 k, .int .i64 n, .string z, .slice a m c]
  have HW1 := Lib.hid (h.agree hb1)
  have HF1 : Hid (Fr B (fun q => q = b) 5 w W1) := Fr.of_below hb1 hB
  have hbne : w.heap.size ≠ b := by have := h.lt; omega
  have HBX := Lib.hid hbx
  have hB1 : B ≤ W1.heap.size := Nat.le_trans hB hb1.size
  obtain ⟨_, _, _, _⟩ := four_cells hbx
  have hl1 := hbx.lt
  have hbl := (h.agree hb1).lt
  have hxl9 : X.length ≤ 120 * x.nn := by rw [← hX9]; exact hxl
  clear h hv hok hit hz hX9 hb1 hbx hxl hX
  cases t with
  | false =>
    go_enter Tryd.func115, Tryd.ntmps115
    go_upto_region 1 with fail
    try rw [hW1]
    try clear hW1
    go_wp2_with (go_at_call 63; (with_reducible refine (HTY.out W1 l HF1.out.bel HW1.out (by omega) hB1).mono ?_); rintro e w2 ⟨rfl, hw2⟩; have HW2 : Hid (Wrote B b (l ++ X) w w2) := ⟨hw2.1, HF1.out.trans hw2.2⟩; clear hw2)
    refine bodyPost_ret (results_none rfl _ _ _) rfl ?_
    exact ⟨rfl, HW2.out⟩
  | true =>
    have HS1 : Hid (∀ (w' : World) (l' s : By) (z : ByteArray), z.data.toList = s → WS w' B b l' → l'.length + s.length ≤ 20000000000000 → B ≤ w'.heap.size → Calls Tryd.prog 113 #[.pointer (some ⟨b, 0, none⟩), .string z] w' fun e w'' => (∃ m : Nat, e = .returned (.tuple #[.int .i64 m, .nilIface])) ∧ Wrote B b (l' ++ s) w' w'') := fun w' l' s z hz hw hl hB' => ty_WriteString w' B b l' s z hz hw (by omega) hB'
    go_enter Tryd.func115, Tryd.ntmps115
    go_upto_region 1 with fail
    try rw [hW1]
    try clear hW1
    go_upto_region 4 with (go_at_call 113; (with_reducible refine (HS1.out W1 l [40] ⟨#[40]⟩ rfl HW1.out (by simp; omega) hB1).mono ?_); go_loud (rintro e w2 ⟨⟨mm, rfl⟩, hw2⟩; have HS2 := Lib.hid hw2.1; have HF2 := Lib.hid hw2.2; have hbx2 := hw2.2.box HBX.out hbne Tryd.tu; obtain ⟨_, _, _, _⟩ := four_cells hbx2; have hl2 := hbx2.lt; have hs2 := hw2.2.size; have hbl2 := hw2.1.lt; clear hw2 hbx2))
    go_upto_region 5 with (go_at_call 63; (with_reducible refine (HTY.out w2 (l ++ [40]) (HF1.out.bel.trans HF2.out.bel) HS2.out (by simp) (by omega)).mono ?_); rintro e w3 ⟨rfl, hw3⟩; have HS3 := Lib.hid hw3.1; have HF3 := Lib.hid hw3.2; have hs3 := hw3.2.size; have hbl3 := hw3.1.lt; clear hw3)
    go_wp2_with (go_at_call 113; (with_reducible refine (HS1.out w3 (l ++ [40] ++ X) [41] ⟨#[41]⟩ rfl HS3.out (by simp; omega) (by omega)).mono ?_); rintro e w4 ⟨⟨mm2, rfl⟩, hw4⟩; have HW4 : Hid (Wrote B b (l ++ [40] ++ X ++ [41]) w w4) := ⟨hw4.1, ((HF1.out.trans HF2.out).trans HF3.out).trans hw4.2⟩; clear hw4)
    go_end0
    refine ⟨rfl, ?_⟩
    have : l ++ held true X = l ++ [40] ++ X ++ [41] := by rw [held_true]; simp
    rw [this]; exact HW4.out

end Go.Proofs.YtpfcpeljfgmjgaaDoor
