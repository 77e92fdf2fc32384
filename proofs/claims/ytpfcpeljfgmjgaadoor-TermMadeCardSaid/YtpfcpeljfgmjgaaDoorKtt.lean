/- Package term: typ, Text. -/
import Derived.Test.YtpfcpeljfgmjgaaDoorKtz
import Derived.Test.YtpfcpeljfgmjgaaDoorKcs
import Derived.Test.YtpfcpeljfgmjgaaDoorKmr
namespace Go.Proofs.YtpfcpeljfgmjgaaDoor
open Go.RowKit Go.Maps
set_option linter.unusedVariables false
set_option linter.unusedSimpArgs false

theorem okT_head {k n : Int} {s : By} {kids : List Ty} (h : okT (.mk k n s kids)) : headMay k n s kids.length = true ∧ ∀ x ∈ kids, okT x := by
  obtain ⟨d, h⟩ := h
  cases d with
  | zero => simp [mayL] at h
  | succ d =>
    simp only [mayL, Bool.and_eq_true, List.all_eq_true] at h
    exact ⟨h.1, fun x hx => ⟨d, h.2 x hx⟩⟩
theorem okT_cases {k n : Int} {s : By} {kids : List Ty} (h : okT (.mk k n s kids)) :
    (∃ q : Nat, k = 1 ∧ n = (q : Int) ∧ q ≤ 2147483647 ∧ s = [] ∧ kids = []) ∨ (k = 2 ∧ s = tArrow ∧ ∃ x y, kids = [x, y])
    ∨ (k = 2 ∧ s = tComma ∧ 2 ≤ kids.length ∧ kids.length ≤ 8) ∨ (k = 2 ∧ s ≠ tArrow ∧ s ≠ tComma ∧ s.length ≤ 30 ∧ kids.length ≤ 20) := by
  have h1 := (okT_head h).1
  rw [headMay_eq] at h1
  split at h1
  · rename_i hk
    simp only [Bool.and_eq_true, decide_eq_true_eq] at h1
    obtain ⟨⟨⟨h2, h3⟩, h4⟩, h5⟩ := h1
    exact .inl ⟨n.toNat, hk, by omega, by omega, h4, List.eq_nil_of_length_eq_zero h5⟩
  · split at h1
    · rename_i hk
      simp only [Bool.and_eq_true, decide_eq_true_eq] at h1
      have h2 := h1.2
      unfold haveL at h2
      refine .inr ?_
      split at h2
      · rename_i hs
        simp only [decide_eq_true_eq] at h2
        match kids, h2 with
        | [x, y], _ => exact .inl ⟨hk, hs, x, y, rfl⟩
      · split at h2
        · rename_i hs
          simp only [Bool.and_eq_true, decide_eq_true_eq] at h2
          exact .inr (.inl ⟨hk, hs, h2.1, h2.2⟩)
        · rename_i hs1 hs2
          simp only [Bool.and_eq_true, decide_eq_true_eq] at h2
          unfold conN at h2
          simp only [Bool.and_eq_true] at h2
          exact .inr (.inr ⟨hk, hs1, hs2, ((rowB_iff s).1 h2.1.1).2.1, h2.2⟩)
    · cases h1
theorem textL_mk (k n : Int) (s : By) (kids : List Ty) : textL (.mk k n s kids) = combT k n s kids (textsL kids) := by rw [textL]
theorem textL_var (n : Int) : textL (.mk 1 n [] []) = varTx n := by rw [textL_mk]; unfold combT; rw [if_pos rfl]
theorem textL_arr (n : Int) (x y : Ty) : textL (.mk 2 n tArrow [x, y]) = held (isArr x) (textL x) ++ ([32, 45, 62, 32] ++ textL y) := by
  rw [textL_mk, textsL_eq]; unfold combT; rw [if_neg (by decide), if_pos rfl]
  simp only [List.map_cons, List.map_nil, List.append_assoc]
theorem textL_com (n : Int) (kids : List Ty) : textL (.mk 2 n tComma kids) = 40 :: (joinC (kids.map textL) ++ [41]) := by
  rw [textL_mk, textsL_eq]; unfold combT; rw [if_neg (by decide), if_neg (by decide), if_pos rfl]
theorem textL_nam (n : Int) (s : By) (kids : List Ty) (h1 : s ≠ tArrow) (h2 : s ≠ tComma) : textL (.mk 2 n s kids) = preN s kids := by
  rw [textL_mk, textsL_eq]; unfold combT; rw [if_neg (by decide), if_neg h1, if_neg h2]; rfl
theorem textL_ne {x : Ty} (h : okT x) : textL x ≠ [] := by
  obtain ⟨k, n, s, kids⟩ := x
  have h0 := (okT_head h).1
  rcases okT_cases h with ⟨q, rfl, rfl, hq, rfl, rfl⟩ | ⟨rfl, rfl, x, y, rfl⟩ | ⟨rfl, rfl, h2, h8⟩ | ⟨rfl, h1, h2, h30, h20⟩
  · rw [textL_var]; unfold varTx; simp
  · rw [textL_arr]; simp
  · rw [textL_com]; simp
  · rw [textL_nam n s kids h1 h2]
    unfold preN
    intro e
    have hs : s = [] := (List.append_eq_nil_iff.1 e).1
    rw [headMay_eq, if_neg (by decide), if_pos rfl] at h0
    unfold haveL at h0
    rw [if_neg h1, if_neg h2, hs] at h0
    simp [conN] at h0
    have := ((rowB_iff []).1 h0.2.1.1).1
    simp at this

set_option maxRecDepth 100000 in
set_option maxHeartbeats 8000000 in
theorem wr_typ (x : Ty) : TypB x := by
  refine Ty.ind (P := TypB) (fun k n s kids ih => ?_) x
  intro B b l u w h hv hok hit hlen hB
  obtain ⟨a, c, rfl, hk⟩ := hv.ty
  rw [tysC_eq] at hk
  have hc := okT_cases hok
  have hkok := (okT_head hok).2
  have hkit : ∀ x ∈ kids, ITs B w x := fun x hx v hv h26 => hit v (by simp only [Ty.vs, List.mem_append]; exact .inr (Ty.vss_mem hx hv)) h26
  simp only [Ty.nn] at hlen
  obtain ⟨z, hz⟩ : ∃ z, strB s = z := ⟨_, rfl⟩
  have hzl : z.data.toList = s := by rw [← hz, strB_list]
  have nt := NTest.of hzl
  have ht1 := nt.e1
  have ht2 := nt.e2
  clear nt
  obtain ⟨m, hm⟩ : ∃ m, kids.length = m := ⟨_, rfl⟩
  rw [hz, hm]
  rw [hm] at hc
  obtain ⟨W1, hW1⟩ : ∃ W1, w.alloc (.cells #[.int .i64 k, .int .i64 n, .string z, .slice a m c] 47) = W1 := ⟨_, rfl⟩
  have hb1 : Below w.heap.size w W1 := hW1 ▸ (Below.refl _ w).alloc (Nat.le_refl _) _
  have hbx : Box W1 w.heap.size 47 [.int .i64 k, .int .i64 n, .string z, .slice a m c] := hW1 ▸ Box.new w 47 [.int .i64 k, .int .i64 n, .string z, .slice a m c]
  have hbB := hb1.mono hB
  have HS1 := Lib.hid (h.agree hb1)
  have HF1 : Hid (Fr B (fun q => q = b) 5 w W1) := Fr.of_below hb1 hB
  have hB1 : B ≤ W1.heap.size := Nat.le_trans hB hb1.size
  obtain ⟨_, _, _, _⟩ := four_cells hbx
  have hl1 := hbx.lt
  have hbl := (h.agree hb1).lt
  have hkit1 : ∀ x ∈ kids, ITs B W1 x := fun x hx v hv h26 => (hkit x hx v hv h26).mono hbB
  have hk1 := hk.belowB hbB
  rw [hm] at hk1
  rcases hc with ⟨q, rfl, rfl, hq, rfl, rfl⟩ | ⟨rfl, rfl, x, y, rfl⟩ | ⟨rfl, rfl, h2, h8⟩ | ⟨rfl, h1, h2, h30, h20⟩
  · rw [textL_var]
    have HC := Lib.hid (wr_variable W1 B b l q HS1.out hq (by omega) hB1 (fun h26 => by
      have := (hit (q : Int) (by simp [Ty.vs]) (by omega)).mono hbB
      simpa using this))
    clear h hv hk hok hkok hkit hit hz hzl ht1 ht2 hb1 hbx hbB hkit1 hk1 ih hm
    go_enter Tryd.func63, Tryd.ntmps63
    go_upto_region 2 with fail
    try rw [hW1]
    try clear hW1
    go_wp2_with (go_at_call 91; (with_reducible refine (HC.out).mono ?_); rintro e w2 ⟨rfl, hw2⟩; have HW2 : Hid (Wrote B b (l ++ varTx (q : Int)) w w2) := ⟨hw2.1, HF1.out.trans hw2.2⟩; clear hw2)
    go_end0
    exact ⟨rfl, HW2.out⟩
  · rw [textL_arr]
    rw [← hm] at hk1
    obtain ⟨g, off, k1, n1, s1, a1, m1, c1, rfl, hgr, hxv, f1, f2, f3, f4, q0, q1, q2, q3⟩ := kid_cellsB hk1 (i := 0) (x := x) rfl (Below.refl B W1)
    clear f1 f2 f3 f4
    obtain ⟨g2, off2, k2, n2, s2, a2, m2, c2, he, hgr2, hyv, f1, f2, f3, f4, p0, p1, p2, p3⟩ := kid_cellsB hk1 (i := 1) (x := y) rfl (Below.refl B W1)
    clear f1 f2 f3 f4
    obtain ⟨rfl, rfl⟩ : g = g2 ∧ off = off2 := by
      have := Option.some.inj he
      exact ⟨congrArg Addr.block this, congrArg Addr.off this⟩
    have hm2 : m = 2 := by rw [← hm]; rfl
    subst hm2
    obtain ⟨z1, hz1⟩ : ∃ z1, strB s1 = z1 := ⟨_, rfl⟩
    obtain ⟨z2, hz2⟩ : ∃ z2, strB s2 = z2 := ⟨_, rfl⟩
    rw [hz1] at hxv q2
    rw [hz2] at hyv p2
    have hnn : l.length + 130 * (x.nn + y.nn) + 100 ≤ 10000000000000 := by simp only [Ty.nns] at hlen; omega
    have HC := Lib.hid (wr_function x y (ih x (by simp)) (ih y (by simp)) W1.drew B b l _ _ (HS1.out.agree (Below.refl _ W1).drew) (hxv.belowB (Below.refl B W1).drew) (hyv.belowB (Below.refl B W1).drew) (hkok x (by simp)) (hkok y (by simp)) (fun v hv h26 => (hkit1 x (by simp) v hv h26).mono (Below.refl B W1).drew) (fun v hv h26 => (hkit1 y (by simp) v hv h26).mono (Below.refl B W1).drew) hnn hB1)
    have HFd : Hid (Fr B (fun q => q = b) 5 w W1.drew) := HF1.out.next (Below.refl _ W1).drew hB
    have T1 : ∀ W, Sem.run Tryd.prog (Instr.indexAt 45 (.slice (some ⟨g, off, none⟩) 2 c) (.int .i64 0)) W = .ok (.pointer (some ⟨g, off, none⟩)) W := fun W => by go_simp
    have T2 : ∀ W, Sem.run Tryd.prog (Instr.indexAt 45 (.slice (some ⟨g, off, none⟩) 2 c) (.int .i64 1)) W = .ok (.pointer (some ⟨g, off + 4, none⟩)) W := fun W => by go_simp
    clear h hv hk hok hkok hkit hit hz hzl hb1 hbx hbB hkit1 hk1 ih hm hxv hyv hz1 hz2 he hlen
    obtain ⟨X, hX⟩ : ∃ X, held (isArr x) (textL x) ++ ([32, 45, 62, 32] ++ textL y) = X := ⟨_, rfl⟩
    rw [hX] at HC ⊢
    clear hX
    simp only [Nat.zero_mul, Nat.one_mul, Nat.add_zero] at q0 q1 q2 q3 p0 p1 p2 p3
    have r1 : W1.cell? ⟨g, off + 5, none⟩ = some (.int .i64 n2) := p1
    have r2 : W1.cell? ⟨g, off + 6, none⟩ = some (.string z2) := p2
    have r3 : W1.cell? ⟨g, off + 7, none⟩ = some (.slice a2 m2 c2) := p3
    rw [decide_eq_true rfl] at ht1
    rw [show decide (tArrow = tComma) = false from by decide] at ht2
    go_enter Tryd.func63, Tryd.ntmps63
    go_upto_region 2 with fail
    try rw [hW1]
    try clear hW1
    go_upto_region 5 with fail
    go_region_with (go_at_call 92; (with_reducible refine (HC.out).mono ?_); rintro e w2 ⟨rfl, hw2⟩; have HW2 : Hid (Wrote B b (l ++ X) w w2) := ⟨hw2.1, HFd.out.trans hw2.2⟩; clear hw2)
    all_goals go_wp2_with fail
    all_goals go_end0
    all_goals exact ⟨rfl, HW2.out⟩
  · rw [textL_com]
    have hlm : kids.length ≤ 8 := by rw [hm]; exact h8
    rw [← hm] at hk1
    rw [hm] at hk1
    have hk2 : InC (fun q => q < B) W1 (.s kids.length 4 (kids.flatMap tyC)) (.slice a m c) := by rw [hm]; exact hk1
    have HC := Lib.hid (wr_tuple kids ih W1 B b l a m c HS1.out hk2 hm (by omega) (by omega) hkok hkit1 (by omega) hB1)
    obtain ⟨X, hX⟩ : ∃ X, (40 :: (joinC (kids.map textL) ++ [41]) : By) = X := ⟨_, rfl⟩
    rw [hX] at HC ⊢
    rw [show decide (tComma = tArrow) = false from by decide] at ht1
    rw [decide_eq_true rfl] at ht2
    clear hX h hv hk hok hkok hkit hit hz hzl hb1 hbx hbB hkit1 hk1 hk2 ih hm hlm
    go_enter Tryd.func63, Tryd.ntmps63
    go_upto_region 2 with fail
    try rw [hW1]
    try clear hW1
    go_wp2_with (go_at_call 93; (with_reducible refine (HC.out).mono ?_); rintro e w2 ⟨rfl, hw2⟩; have HW2 : Hid (Wrote B b (l ++ X) w w2) := ⟨hw2.1, HF1.out.trans hw2.2⟩; clear hw2)
    go_end0
    exact ⟨rfl, HW2.out⟩
  · rw [textL_nam n s kids h1 h2]
    have hk2 : InC (fun q => q < B) W1 (.s kids.length 4 (kids.flatMap tyC)) (.slice a m c) := by rw [hm]; exact hk1
    have HC := Lib.hid (wr_named s z hzl kids ih W1 B b l a m c HS1.out hk2 hm (by omega) h30 hkok hkit1 (by omega) hB1)
    obtain ⟨X, hX⟩ : ∃ X, preN s kids = X := ⟨_, rfl⟩
    rw [hX] at HC ⊢
    rw [decide_eq_false h1] at ht1
    rw [decide_eq_false h2] at ht2
    clear hX h hv hk hok hkok hkit hit hz hzl hb1 hbx hbB hkit1 hk1 hk2 ih hm h1 h2
    go_enter Tryd.func63, Tryd.ntmps63
    go_upto_region 2 with fail
    try rw [hW1]
    try clear hW1
    go_wp2_with (go_at_call 94; (with_reducible refine (HC.out).mono ?_); rintro e w2 ⟨rfl, hw2⟩; have HW2 : Hid (Wrote B b (l ++ X) w w2) := ⟨hw2.1, HF1.out.trans hw2.2⟩; clear hw2)
    go_end0
    exact ⟨rfl, HW2.out⟩

theorem Tryd.kzeroWriter (w : World) : (zeroValue 118).run Tryd.prog w = .ok (.agg #[.pointer none, .slice none 0 0]) w := by kernel_rfl
set_option maxRecDepth 100000 in
set_option maxHeartbeats 4000000 in
/-- Text, of what may be. -/
theorem ty_Text (x : Ty) (S : Nat → Prop) (u : Value) (w : World) (hv : IsV S w (tyC x) u) (hm : mayL 100 x = true) (hnn : x.nn ≤ 10000000000) (hit : ITs w.heap.size w x) :
    Calls Tryd.prog 32 #[u] w fun e w' => e = .returned (.string (strB (textL x))) ∧ Below w.heap.size w w' := by
  have hok : okT x := ⟨100, hm⟩
  have hlim := mayL_lim 100 x hm
  have hne := textL_ne hok
  obtain ⟨W1, hW1⟩ : ∃ W1, w.alloc (.cells u.cells 47) = W1 := ⟨_, rfl⟩
  have hb1 : Below w.heap.size w W1 := hW1 ▸ (Below.refl _ w).alloc (Nat.le_refl _) _
  have HMY := Lib.hid (ty_May x S u W1 (hv.under hb1) (by unfold maxLen; omega))
  rw [hm] at HMY
  have hvB : IsV (fun q => q < w.heap.size) w (tyC x) u := hv.mono fun q h1 _ => h1
  have HTY : Hid (∀ W' : World, Below w.heap.size w W' → Calls Tryd.prog 63 #[.pointer (some ⟨W'.heap.size, 0, none⟩), u] (W'.alloc (.cells #[.pointer none, .slice none 0 0] 118)) fun e w'' => e = .returned (.tuple #[]) ∧ Wrote w.heap.size W'.heap.size (textL x) (W'.alloc (.cells #[.pointer none, .slice none 0 0] 118)) w'') := fun W' hW' => by
    have hbx := Box.new W' 118 [.pointer none, .slice none 0 0]
    have hs := hW'.size
    have hb2 := hW'.alloc hs (.cells #[.pointer none, .slice none 0 0] 118)
    exact wr_typ x w.heap.size W'.heap.size [] u _ ⟨.pointer none, .slice none 0 0, .inl rfl, hbx, World.ownsRow_nil _ _ _ _, hs⟩ (hvB.belowB hb2) hok (fun v hv h26 => (hit v hv h26).mono hb2) (by simp; omega) (by rw [World.size_alloc]; omega)
  have HST : Hid (∀ (W' : World) (b : Nat), WS W' w.heap.size b (textL x) → w.heap.size ≤ W'.heap.size → Calls Tryd.prog 64 #[.pointer (some ⟨b, 0, none⟩)] W' fun e w' => e = .returned (.string (strB (textL x))) ∧ Below w.heap.size W' w') := fun W' b h1 h2 => ty_String W' w.heap.size b _ h1 hne h2
  obtain ⟨X, hX⟩ : ∃ X, textL x = X := ⟨_, rfl⟩
  rw [hX] at HTY HST ⊢
  obtain ⟨zX, hzX⟩ : ∃ zX, strB X = zX := ⟨_, rfl⟩
  rw [hzX] at HST ⊢
  obtain ⟨k, n, s, kids⟩ := x
  obtain ⟨a, c, rfl, hk⟩ := hv.ty
  obtain ⟨z, hz⟩ : ∃ z, strB s = z := ⟨_, rfl⟩
  obtain ⟨m, hm9⟩ : ∃ m, kids.length = m := ⟨_, rfl⟩
  have hx0 : Box W1 w.heap.size 47 [.int .i64 k, .int .i64 n, .string z, .slice a m c] := by
    rw [← hW1, ← hz, ← hm9]
    exact Box.new w 47 [.int .i64 k, .int .i64 n, .string (strB s), .slice a kids.length c]
  rw [hz, hm9] at HTY HMY
  rw [hz, hm9] at hW1
  rw [hz, hm9]
  have hW2 : w.alloc (.cells #[.int .i64 k, .int .i64 n, .string z, .slice a m c] 47) = W1 := hW1
  have HX0 := Lib.hid hx0
  have HB1 := Lib.hid hb1
  obtain ⟨_, _, _, _⟩ := four_cells hx0
  have hl0 := hx0.lt
  clear hv hk hz hm9 hX hm hlim hb1 hx0 hW1 hvB hnn hit hok hne hzX
  go_enter Tryd.func32, Tryd.ntmps32
  go_upto_region 1 with fail
  try rw [hW2]
  try clear hW2
  go_upto_region 4 with (go_at_call 20; (with_reducible refine (HMY.out).mono ?_); rintro e w2 ⟨rfl, hb2⟩; have hy0 := HX0.out.below hb2; obtain ⟨_, _, _, _⟩ := four_cells hy0; have hy0l := hy0.lt; have HB2 := Lib.hid (HB1.out.trans (hb2.mono HB1.out.size)); clear hb2 hy0)
  go_upto_region 5 with (go_at_call 63; (with_reducible refine (HTY.out w2 HB2.out).mono ?_); rintro e w3 ⟨rfl, hw3⟩; have HS3 := Lib.hid hw3.1; have HB3 := Lib.hid ((HB2.out.alloc HB2.out.size (.cells #[.pointer none, .slice none 0 0] 118)).trans hw3.2.bel); have hs3 := HB3.out.size; have hl3 := hw3.1.lt; clear hw3)
  go_wp2_with (go_at_call 64; (with_reducible refine (HST.out w3 _ HS3.out hs3).mono ?_); rintro e w4 ⟨rfl, hb4⟩; have HB4 := Lib.hid (HB3.out.trans hb4); clear hb4)
  go_ret
  exact ⟨rfl, HB4.out⟩

end Go.Proofs.YtpfcpeljfgmjgaaDoor
