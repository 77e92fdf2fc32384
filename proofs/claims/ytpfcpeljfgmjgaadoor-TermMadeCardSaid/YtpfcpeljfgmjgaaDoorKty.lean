/- Package term's writer: functions, tuples, names; typ; Text. -/
import Derived.Test.YtpfcpeljfgmjgaaDoorKtx
namespace Go.Proofs.YtpfcpeljfgmjgaaDoor
open Go.RowKit Go.Maps
set_option linter.unusedVariables false
set_option linter.unusedSimpArgs false

abbrev WSC (B b : Nat) (N : Nat) : Prop := ∀ (w' : World) (l' s : By) (z : ByteArray), z.data.toList = s → WS w' B b l' → l'.length + s.length ≤ N → B ≤ w'.heap.size → Calls Tryd.prog 113 #[.pointer (some ⟨b, 0, none⟩), .string z] w' fun e w'' => (∃ m : Nat, e = .returned (.tuple #[.int .i64 m, .nilIface])) ∧ Wrote B b (l' ++ s) w' w''
theorem wsc (B b : Nat) : WSC B b 20000000000000 := fun w' l' s z hz hw hl hB' => ty_WriteString w' B b l' s z hz hw (by omega) hB'

set_option maxRecDepth 100000 in
set_option maxHeartbeats 4000000 in
theorem wr_function (x y : Ty) (hX : TypB x) (hY : TypB y) (w : World) (B b : Nat) (l : By) (u u' : Value) (h : WS w B b l) (hv : IsV (fun q => q < B) w (tyC x) u) (hv' : IsV (fun q => q < B) w (tyC y) u') (hok : okT x) (hok' : okT y) (hit : ITs B w x) (hit' : ITs B w y) (hlen : l.length + 130 * (x.nn + y.nn) + 100 ≤ 10000000000000) (hB : B ≤ w.heap.size) :
    Calls Tryd.prog 92 #[.pointer (some ⟨b, 0, none⟩), u, u'] w fun e w' => e = .returned (.tuple #[]) ∧ Wrote B b (l ++ (held (isArr x) (textL x) ++ ([32, 45, 62, 32] ++ textL y))) w w' := by
  have hxl := okT_len hok
  have hyl := okT_len hok'
  have hhl := held_len (isArr x) (textL x)
  have HHD : Hid (∀ (w' : World) (t : Bool), Below B w w' → WS w' B b l → B ≤ w'.heap.size → Calls Tryd.prog 115 #[.pointer (some ⟨b, 0, none⟩), u, .bool t] w' fun e w'' => e = .returned (.tuple #[]) ∧ Wrote B b (l ++ held t (textL x)) w' w'') := fun w' t hb hw hB' =>
    wr_held x hX t w' B b l u hw (hv.belowB hb) hok (fun v hv h26 => (hit v hv h26).mono hb) (by omega) hB'
  have HTY : Hid (∀ (w' : World) (l' : By), Below B w w' → WS w' B b l' → l'.length ≤ l.length + (held (isArr x) (textL x)).length + 4 → B ≤ w'.heap.size → Calls Tryd.prog 63 #[.pointer (some ⟨b, 0, none⟩), u'] w' fun e w'' => e = .returned (.tuple #[]) ∧ Wrote B b (l' ++ textL y) w' w'') := fun w' l' hb hw hl hB' =>
    hY B b l' u' w' hw (hv'.belowB hb) hok' (fun v hv h26 => (hit' v hv h26).mono hb) (by omega) hB'
  have hax : isArr x = decide (x.nm = tArrow) := rfl
  obtain ⟨xk, xn, xs, xkids⟩ := x
  obtain ⟨xa, xc, rfl, _⟩ := hv.ty
  obtain ⟨k', n', s', a', m', c', rfl⟩ := hv'.tys
  obtain ⟨z, hz⟩ : ∃ z, strB xs = z := ⟨_, rfl⟩
  obtain ⟨z', hz'⟩ : ∃ z, strB s' = z := ⟨_, rfl⟩
  obtain ⟨xm, hxm⟩ : ∃ xm, xkids.length = xm := ⟨_, rfl⟩
  have ez : (z.toList == [45, 62]) = isArr (.mk xk xn xs xkids) := by rw [toList_dec, ← hz, strB_list]; rfl
  rw [hz, hxm] at HHD
  rw [hz'] at HTY
  rw [hz, hz', hxm]
  obtain ⟨t, ht⟩ : ∃ t, isArr (.mk xk xn xs xkids) = t := ⟨_, rfl⟩
  obtain ⟨X, hX9⟩ : ∃ X, held t (textL (.mk xk xn xs xkids)) = X := ⟨_, rfl⟩
  obtain ⟨Y, hY9⟩ : ∃ Y, textL y = Y := ⟨_, rfl⟩
  rw [ht] at ez
  rw [ht, hX9] at HTY hhl
  rw [hY9] at HTY
  rw [ht, hX9, hY9]
  have HH2 : Hid (∀ (w' : World), Below B w w' → WS w' B b l → B ≤ w'.heap.size → Calls Tryd.prog 115 #[.pointer (some ⟨b, 0, none⟩), .agg #[.int .i64 xk, .int .i64 xn, .string z, .slice xa xm xc], .bool t] w' fun e w'' => e = .returned (.tuple #[]) ∧ Wrote B b (l ++ X) w' w'') := by
    show ∀ w', _; intro w' h1 h2 h3; rw [← hX9]; exact HHD.out w' t h1 h2 h3
  obtain ⟨W1, hW1⟩ : ∃ W1, (w.alloc (.cells #[.int .i64 xk, .int .i64 xn, .string z, .slice xa xm xc] 47)).alloc (.cells #[.int .i64 k', .int .i64 n', .string z', .slice a' m' c'] 47) = W1 := ⟨_, rfl⟩
  have hb1 : Below w.heap.size w W1 := hW1 ▸ ((Below.refl _ w).alloc (Nat.le_refl _) _).alloc (by simp) _
  have hbx : Box W1 w.heap.size 47 [.int .i64 xk, .int .i64 xn, .string z, .slice xa xm xc] := hW1 ▸ (Box.new w 47 [.int .i64 xk, .int .i64 xn, .string z, .slice xa xm xc]).alloc _
  have hby : Box W1 (w.heap.size + 1) 47 [.int .i64 k', .int .i64 n', .string z', .slice a' m' c'] := by
    rw [← hW1]
    have := Box.new (w.alloc (.cells #[.int .i64 xk, .int .i64 xn, .string z, .slice xa xm xc] 47)) 47 [.int .i64 k', .int .i64 n', .string z', .slice a' m' c']
    rwa [World.size_alloc] at this
  have HS1 := Lib.hid (h.agree hb1)
  have HF1 : Hid (Fr B (fun q => q = b) 5 w W1) := Fr.of_below hb1 hB
  have hbne : w.heap.size + 1 ≠ b := by have := h.lt; omega
  have HBY := Lib.hid hby
  have hB1 : B ≤ W1.heap.size := Nat.le_trans hB hb1.size
  obtain ⟨_, _, _, _⟩ := four_cells hbx
  have hl1 := hbx.lt
  have hbl := (h.agree hb1).lt
  have HWS := Lib.hid (wsc B b)
  have hXl : X.length ≤ 120 * (Ty.mk xk xn xs xkids).nn + 2 := by omega
  clear h hv hv' hok hok' hit hit' hz hz' hX9 hY9 hb1 hbx hby hxl hyl hX hY hax hxm ht HHD hhl
  go_enter Tryd.func92, Tryd.ntmps92
  go_upto_region 1 with fail
  try rw [hW1]
  try clear hW1
  go_upto_region 2 with (go_at_call 115; (with_reducible refine (HH2.out W1 HF1.out.bel HS1.out hB1).mono ?_); rintro e w2 ⟨rfl, hw2⟩; have HS2 := Lib.hid hw2.1; have HF2 := Lib.hid (HF1.out.trans hw2.2); have hs2 := hw2.2.size; have hbl2 := hw2.1.lt; have HBY2 := Lib.hid (hw2.2.box HBY.out hbne Tryd.tu); clear hw2)
  go_upto_region 3 with (go_at_call 113; (with_reducible refine (HWS.out w2 (l ++ X) [32, 45, 62, 32] ⟨#[32, 45, 62, 32]⟩ rfl HS2.out (by simp; omega) (by omega)).mono ?_); rintro e w3 ⟨⟨mm, rfl⟩, hw3⟩; have HS3 := Lib.hid hw3.1; have HF3 := Lib.hid (HF2.out.trans hw3.2); have hs3 := hw3.2.size; have hbl3 := hw3.1.lt; have hby3 := hw3.2.box HBY2.out hbne Tryd.tu; obtain ⟨_, _, _, _⟩ := four_cells hby3; have hl3 := hby3.lt; clear hw3 hby3)
  go_wp2_with (go_at_call 63; (with_reducible refine (HTY.out w3 (l ++ X ++ [32, 45, 62, 32]) HF3.out.bel HS3.out (by simp; omega) (by omega)).mono ?_); rintro e w4 ⟨rfl, hw4⟩; have HS4 := Lib.hid hw4.1; have HF4 := Lib.hid (HF3.out.trans hw4.2); clear hw4)
  go_end0
  refine ⟨rfl, ?_⟩
  have e : l ++ X ++ [32, 45, 62, 32] ++ Y = l ++ (X ++ 32 :: 45 :: 62 :: 32 :: Y) := by simp
  have h4 : Wrote B b (l ++ X ++ [32, 45, 62, 32] ++ Y) w w4 := ⟨HS4.out, HF4.out⟩
  rw [e] at h4; exact h4

/-! ### Tuples -/
theorem joinC_snoc : ∀ (l : List By) (x : By), l ≠ [] → joinC (l ++ [x]) = joinC l ++ [44, 32] ++ x
  | [], x, h => absurd rfl h
  | [y], x, _ => by simp [joinC]
  | y :: z :: r, x, _ => by
    have := joinC_snoc (z :: r) x (by simp)
    simp only [List.cons_append, joinC] at this ⊢
    rw [this]; simp
def preT (i : Nat) (l : List By) : By := if i = 0 then [] else 40 :: joinC l
theorem preT_snoc {i : Nat} {l : List By} (x : By) (hl : l.length = i) : preT (i + 1) (l ++ [x]) = preT i l ++ (if i = 0 then [40] else [44, 32]) ++ x := by
  unfold preT
  rw [if_neg (by omega)]
  by_cases h : i = 0
  · have : l = [] := List.eq_nil_of_length_eq_zero (by omega)
    subst this
    rw [if_pos h, if_pos h]; simp [joinC]
  · rw [if_neg h, if_neg h, joinC_snoc l x (by intro e; subst e; simp at hl; omega)]; simp
theorem preT_len (i : Nat) (l : List By) (hl : l.length = i) : (preT i l).length ≤ 1 + (l.map List.length).sum + 2 * i := by
  unfold preT
  split
  · simp
  · have := joinC_len l
    simp only [List.length_cons]; omega
theorem sumL_le : ∀ (l : List Ty), (∀ x ∈ l, okT x) → ((l.map textL).map List.length).sum ≤ 120 * Ty.nns l
  | [], _ => by simp
  | x :: r, h => by
    have h1 := okT_len (h x (by simp))
    have h2 := sumL_le r (fun y hy => h y (by simp [hy]))
    simp only [List.map_cons, List.sum_cons, Ty.nns]; omega
theorem nns_snoc17 {l : List Ty} {i : Nat} {x : Ty} (h : l[i]? = some x) : Ty.nns (l.take (i + 1)) = Ty.nns (l.take i) + x.nn := nns_snoc h
set_option maxRecDepth 100000 in
set_option maxHeartbeats 8000000 in
theorem wr_tuple (kids : List Ty) (hX : ∀ x ∈ kids, TypB x) (w : World) (B b : Nat) (l : By) (a : Option Addr) (m c : Nat) (h : WS w B b l) (hk : InC (fun q => q < B) w (.s kids.length 4 (kids.flatMap tyC)) (.slice a m c)) (hm : kids.length = m) (hm1 : 1 ≤ m) (hm2 : m ≤ 1000) (hok : ∀ x ∈ kids, okT x) (hit : ∀ x ∈ kids, ITs B w x) (hlen : l.length + 130 * (1 + Ty.nns kids) ≤ 10000000000000) (hB : B ≤ w.heap.size) :
    Calls Tryd.prog 93 #[.pointer (some ⟨b, 0, none⟩), .slice a m c] w fun e w' => e = .returned (.tuple #[]) ∧ Wrote B b (l ++ (40 :: (joinC (kids.map textL) ++ [41]))) w w' := by
  have HK := Lib.hid hk
  have HM := Lib.hid hm
  have HX := Lib.hid hX
  have HOK := Lib.hid hok
  have HIT := Lib.hid hit
  have HWS := Lib.hid (wsc B b)
  have HLN := Lib.hid hlen
  have HS0 : Hid (WS w B b (l ++ preT 0 ((kids.take 0).map textL))) := by show WS _ _ _ _; simpa [preT] using h
  have hbl := h.lt
  clear hk hm hX hok hit h hlen
  go_enter Tryd.func93, Tryd.ntmps93
  go_wp2_with fail
  go_loopw [4, 9] (fun av iv wr => ∃ i : Nat, i ≤ m ∧ iv = .int .i64 (i : Int) ∧ av = .string (strB (if i = 0 then [40] else [44, 32])) ∧ Hid (WS wr B b (l ++ preT i ((kids.take i).map textL))) ∧ Hid (Fr B (fun q => q = b) 5 w wr)) (fun _ iv _ => m - (intOf iv).toNat)
  case atStart => exact ⟨0, Nat.zero_le _, rfl, rfl, HS0, Fr.refl _ _ _ _⟩
  case round =>
    obtain ⟨i, hi, rfl, rfl, HS, HF⟩ := hrel
    clear HS0
    have hBr : B ≤ wr.heap.size := Nat.le_trans hB HF.out.size
    have hblr := HS.out.lt
    have hpl := preT_len i ((kids.take i).map textL) (by rw [List.length_map, List.length_take, HM.out]; omega)
    have hsl := sumL_le (kids.take i) (fun x hx => HOK.out x (List.mem_of_mem_take hx))
    have hnt := Ty.nns_len (kids.take i)
    rw [List.length_take, HM.out] at hnt
    have hln := HLN.out
    obtain ⟨ah, hah⟩ : ∃ ah, strB (if i = 0 then [40] else [44, 32]) = ah := ⟨_, rfl⟩
    obtain ⟨av, hav⟩ : ∃ av : By, (if i = 0 then [40] else [44, 32]) = av := ⟨_, rfl⟩
    have hav2 : av.length ≤ 2 := by rw [← hav]; split <;> simp
    have hahl : ah.data.toList = av := by rw [← hah, strB_list, hav]
    obtain ⟨P, hP⟩ : ∃ P, preT i ((kids.take i).map textL) = P := ⟨_, rfl⟩
    rw [hP] at HS hpl
    rw [hah]
    by_cases hlt : i < m
    · obtain ⟨x, hx⟩ : ∃ x, kids[i]? = some x := ⟨_, List.getElem?_eq_getElem (by rw [HM.out]; exact hlt)⟩
      obtain ⟨g, off, k', n', s', a', m', c', rfl, hgr, hxv, f1, f2, f3, f4, q0, q1, q2, q3⟩ := kid_cellsB HK.out hx HF.out.bel
      clear f1 f2 f3 f4
      have hxm := List.mem_of_getElem? hx
      obtain ⟨z', hz'⟩ : ∃ z', strB s' = z' := ⟨_, rfl⟩
      rw [hz'] at hxv q2
      have hns := nns_snoc17 hx
      have hnk := Ty.nns_take kids (i + 1)
      have hbnd : l.length + P.length + 2 + 130 * x.nn ≤ 10000000000000 := by omega
      have HP2 : Hid (preT (i + 1) ((kids.take (i + 1)).map textL) = P ++ av ++ textL x) := by
        show _ = _
        rw [take_snoc' hx, List.map_append, ← hP, ← hav]
        exact preT_snoc (textL x) (by rw [List.length_map, List.length_take, HM.out]; omega)
      obtain ⟨W5, hW5⟩ : ∃ W5, wr.alloc (.cells #[.int .i64 k', .int .i64 n', .string z', .slice a' m' c'] 47) = W5 := ⟨_, rfl⟩
      have hb5 : Below wr.heap.size wr W5 := hW5 ▸ (Below.refl _ wr).alloc (Nat.le_refl _) _
      have hk5 : Box W5 wr.heap.size 47 [.int .i64 k', .int .i64 n', .string z', .slice a' m' c'] := hW5 ▸ Box.new wr 47 [.int .i64 k', .int .i64 n', .string z', .slice a' m' c']
      have HS5 := Lib.hid (HS.out.agree hb5)
      have HF5 : Hid (Fr B (fun q => q = b) 5 w W5) := HF.out.next hb5 hB
      have hkne : wr.heap.size ≠ b := by omega
      have HK5 := Lib.hid hk5
      have hB5 : B ≤ W5.heap.size := Nat.le_trans hBr hb5.size
      have hbl5 := (HS.out.agree hb5).lt
      have hkl5 := hk5.lt
      have HTY : Hid (∀ (w' : World) (l' : By), Below B wr w' → WS w' B b l' → l'.length ≤ l.length + P.length + 2 → B ≤ w'.heap.size → Calls Tryd.prog 63 #[.pointer (some ⟨b, 0, none⟩), .agg #[.int .i64 k', .int .i64 n', .string z', .slice a' m' c']] w' fun e w'' => e = .returned (.tuple #[]) ∧ Wrote B b (l' ++ textL x) w' w'') := fun w' l' hb hw hl hB' =>
        HX.out x hxm B b l' _ w' hw (hxv.belowB hb) (HOK.out x hxm) (fun v hv h26 => (HIT.out x hxm v hv h26).mono (HF.out.bel.trans hb)) (by omega) hB'
      have HB5 : Hid (Below B wr W5) := hb5.mono hBr
      obtain ⟨X, hX9⟩ : ∃ X, textL x = X := ⟨_, rfl⟩
      rw [hX9] at HTY HP2
      have T1 : ∀ W, Sem.run Tryd.prog (Instr.indexAt 45 (.slice (some ⟨g, off, none⟩) m c) (.int .i64 (i : Int))) W = .ok (.pointer (some ⟨g, off + i * 4, none⟩)) W := fun W => by go_simp
      have hi1 : (if i + 1 = 0 then [40] else [44, 32] : By) = [44, 32] := if_neg (by omega)
      have HI1 := Lib.hid hi1
      have HAH := Lib.hid hahl
      clear hx hxv hz' hxm hb5 hk5 hah hav hahl hP hX9 hpl hsl hnt hln hns hnk hi1
      go_upto_region 4 with fail
      try rw [hW5]
      try clear hW5
      go_upto_region 5 with (go_at_call 113; (with_reducible refine (HWS.out W5 (l ++ P) av ah HAH.out HS5.out (by rw [List.length_append]; omega) hB5).mono ?_); rintro e w6 ⟨⟨mm, rfl⟩, hw6⟩; have HS6 := Lib.hid hw6.1; have HF6 := Lib.hid (HF5.out.trans hw6.2); have HB6 := Lib.hid (HB5.out.trans hw6.2.bel); have hs6 := hw6.2.size; have hbl6 := hw6.1.lt; have hk6 := hw6.2.box HK5.out hkne Tryd.tu; obtain ⟨_, _, _, _⟩ := four_cells hk6; have hkl6 := hk6.lt; clear hw6 hk6)
      go_wp2_with (go_at_call 63; (with_reducible refine (HTY.out w6 (l ++ P ++ av) HB6.out HS6.out (by rw [List.length_append, List.length_append]; omega) (by omega)).mono ?_); rintro e w7 ⟨rfl, hw7⟩; have HS7 : Hid (WS w7 B b (l ++ preT (i + 1) ((kids.take (i + 1)).map textL))) := (by show WS _ _ _ _; rw [HP2.out]; have := hw7.1; simpa using this); have HF7 := Lib.hid (HF6.out.trans hw7.2); clear hw7)
      go_roundw
      case rel => exact ⟨i + 1, by omega, by go_num, by rw [HI1.out]; rfl, HS7, HF7⟩
      case measure => simp [intOf]; omega
    · have him : i = m := by omega
      have hP0 : P = 40 :: joinC (kids.map textL) := by
        rw [← hP, List.take_of_length_le (by rw [HM.out]; omega)]
        unfold preT; rw [if_neg (by omega)]
      have HP0 := Lib.hid hP0
      have hnk2 := Ty.nns_take kids i
      have hbnd : l.length + P.length ≤ 10000000000000 := by omega
      subst him
      clear hah hav hahl hP hP0 hpl hsl hnt hln hnk2
      go_wp2_with (go_at_call 113; (with_reducible refine (HWS.out wr (l ++ P) [41] ⟨#[41]⟩ rfl HS.out (by rw [List.length_append]; simp; omega) hBr).mono ?_); rintro e w6 ⟨⟨mm, rfl⟩, hw6⟩; have HS6 := Lib.hid hw6.1; have HF6 := Lib.hid (HF.out.trans hw6.2); clear hw6)
      go_end0
      refine ⟨rfl, ?_⟩
      have e : l ++ (40 :: (joinC (kids.map textL) ++ [41])) = l ++ P ++ [41] := by rw [HP0.out]; simp
      rw [e]; exact ⟨HS6.out, HF6.out⟩

end Go.Proofs.YtpfcpeljfgmjgaaDoor
