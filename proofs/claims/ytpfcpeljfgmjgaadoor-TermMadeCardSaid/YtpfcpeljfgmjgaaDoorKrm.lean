/- Package term: copied, remade at its two function values. -/
import Derived.Test.YtpfcpeljfgmjgaaDoorKmz
import Derived.Test.YtpfcpeljfgmjgaaDoorMem
import Derived.Deep.RegionWith
namespace Go.Proofs.YtpfcpeljfgmjgaaDoor
open Go.RowKit
set_option linter.unusedVariables false
set_option linter.unusedSimpArgs false

mutual
/-- The most kids. -/
def Ty.wd : Ty → Nat
  | .mk _ _ _ kids => max kids.length (Ty.wds kids)
def Ty.wds : List Ty → Nat
  | [] => 0
  | x :: r => max x.wd (Ty.wds r)
end
theorem Ty.wd_mem : ∀ {l : List Ty} {x : Ty}, x ∈ l → x.wd ≤ Ty.wds l
  | y :: r, x, h => by
    simp only [Ty.wds]
    rcases List.mem_cons.1 h with rfl | h
    · omega
    · have := Ty.wd_mem h; omega
def tZero : List Value := [.int .i64 0, .int .i64 0, .string ⟨#[]⟩, .slice none 0 0]
/-- A function value that tells, of a kid, what comes of it. -/
def DoesK (g : Nat) (lb : Array Value) (w : World) (x y : Ty) : Prop := ∀ (S : Nat → Prop) (u : Value) (w' : World), Below w.heap.size w w' → IsV S w' (tyC x) u →
  Calls Tryd.prog g (#[u] ++ lb) w' fun e w'' => ∃ v, e = .returned v ∧ IsV (New w') w'' (tyC y) v ∧ Below w'.heap.size w' w''
theorem row_at {w : World} {b i : Nat} {xs : List (List Value)} (h : RowsIn 4 w b xs) (hx : xs[i]? = some tZero) :
    w.cell? ⟨b, i * 4, none⟩ = some (.int .i64 0) ∧ w.cell? ⟨b, i * 4 + 1, none⟩ = some (.int .i64 0) ∧ w.cell? ⟨b, i * 4 + 2, none⟩ = some (.string ⟨#[]⟩) ∧ w.cell? ⟨b, i * 4 + 3, none⟩ = some (.slice none 0 0)
      ∧ w.frozen? ⟨b, i * 4, none⟩ = false ∧ w.frozen? ⟨b, i * 4 + 1, none⟩ = false ∧ w.frozen? ⟨b, i * 4 + 2, none⟩ = false ∧ w.frozen? ⟨b, i * 4 + 3, none⟩ = false := by
  have h0 := h.2 i _ hx 0 _ rfl
  have h1 := h.2 i _ hx 1 _ rfl
  have h2 := h.2 i _ hx 2 _ rfl
  have h3 := h.2 i _ hx 3 _ rfl
  rw [Nat.add_zero] at h0
  exact ⟨h0.1, h1.1, h2.1, h3.1, h0.2, h1.2, h2.2, h3.2⟩
theorem RowsIn.put4 {w : World} {b i : Nat} {xs : List (List Value)} (h : RowsIn 4 w b xs) (hx : xs[i]? = some tZero) (hk : ∀ y ∈ xs, y.length = 4) (v0 v1 v2 v3 : Value) :
    RowsIn 4 ((((w.setCell ⟨b, i * 4, none⟩ v0).setCell ⟨b, i * 4 + 1, none⟩ v1).setCell ⟨b, i * 4 + 2, none⟩ v2).setCell ⟨b, i * 4 + 3, none⟩ v3) b (xs.set i [v0, v1, v2, v3]) := by
  have hi : i < xs.length := (List.getElem?_eq_some_iff.1 hx).1
  have len4 : ∀ (x : List Value) (l : List (List Value)), x.length = 4 → (∀ y ∈ l, y.length = 4) → ∀ y ∈ l.set i x, y.length = 4 := fun x l h1 h2 y hy => by
    rcases List.mem_or_eq_of_mem_set hy with h | h
    · exact h2 y h
    · rw [h]; exact h1
  have a0 := h.put (j := 0) (v := v0) hx rfl hk
  rw [Nat.add_zero] at a0
  have a1 := a0.put (i := i) (j := 1) (v := v1) (x := tZero.set 0 v0) (by simp [hi]) rfl (len4 _ _ rfl hk)
  have a2 := a1.put (i := i) (j := 2) (v := v2) (x := (tZero.set 0 v0).set 1 v1) (by simp [hi]) rfl (len4 _ _ rfl (len4 _ _ rfl hk))
  have a3 := a2.put (i := i) (j := 3) (v := v3) (x := ((tZero.set 0 v0).set 1 v1).set 2 v2) (by simp [hi]) rfl (len4 _ _ rfl (len4 _ _ rfl (len4 _ _ rfl hk)))
  simpa [tZero] using a3
theorem rows_set {α : Type} {done : List α} {i m : Nat} {z x : α} (hd : done.length = i) (h : i < m) : (done ++ List.replicate (m - i) z).set i x = (done ++ [x]) ++ List.replicate (m - (i + 1)) z := by
  obtain ⟨q, hq⟩ : ∃ q, m - i = q + 1 := ⟨m - i - 1, by omega⟩
  have hq2 : m - (i + 1) = q := by omega
  rw [hq, hq2, List.set_append_right _ _ (by omega), hd, Nat.sub_self, List.replicate_succ]
  simp
theorem flat4 : ∀ {l : List (List Value)}, (∀ y ∈ l, y.length = 4) → l.flatten.length = l.length * 4
  | [], _ => rfl
  | x :: r, h => by
    have h1 := h x (by simp)
    have h2 := flat4 (l := r) (fun y hy => h y (by simp [hy]))
    simp only [List.flatten_cons, List.length_append, List.length_cons]; omega
theorem rows_flat {w : World} {b : Nat} : ∀ {l : List (List Value)} {off : Nat}, (∀ (i : Nat) (x : List Value), l[i]? = some x → ∀ (j : Nat) (v : Value), x[j]? = some v → w.cell? ⟨b, off + (i * 4 + j), none⟩ = some v) → (∀ y ∈ l, y.length = 4) → ∀ (j : Nat) (u : Value), l.flatten[j]? = some u → w.cell? ⟨b, off + j, none⟩ = some u
  | [], _, _, _, j, u, h => by simp at h
  | x :: r, off, h, h4, j, u, hj => by
    have hx := h4 x (by simp)
    rw [List.flatten_cons] at hj
    by_cases hlt : j < 4
    · rw [List.getElem?_append_left (by omega)] at hj
      have := h 0 x rfl j u hj
      simpa using this
    · rw [List.getElem?_append_right (by omega), hx] at hj
      have ih := rows_flat (l := r) (off := off + 4) (fun i y hy j v hv => by
        have := h (i + 1) y (by simpa using hy) j v hv
        rw [Nat.add_mul] at this
        rw [show off + 4 + (i * 4 + j) = off + (i * 4 + 1 * 4 + j) by omega]; exact this) (fun y hy => h4 y (by simp [hy])) (j - 4) u hj
      rw [show off + 4 + (j - 4) = off + j by omega] at ih
      exact ih

set_option maxRecDepth 100000 in
set_option maxHeartbeats 8000000 in
theorem remade_c (g : Ty → Ty) (k n : Int) (s : By) (kids : List Ty) (S : Nat → Prop) (u : Value) (w : World) (hv : IsV S w (tyC (.mk k n s kids)) u) (hsz : s.length ≤ 1000) (hwd : kids.length ≤ 1000)
    (hX : ∀ x ∈ kids, DoesK 59 #[] w x (g x)) :
    Calls Tryd.prog 89 #[u, .func (.func 59) #[] #[]] w fun e w' => ∃ v, e = .returned v ∧ IsV (New w) w' (tyC (.mk k n s (kids.map g))) v ∧ Below w.heap.size w w' := by
  obtain ⟨i0, hi0, hz0, hz1, hz2⟩ := info_parts Tryd.zinfoT
  obtain ⟨a, c, rfl, hk⟩ := hv.ty
  obtain ⟨z, hz⟩ : ∃ z, strB s = z := ⟨_, rfl⟩
  have hzs : z.size ≤ 1000000 := by rw [← hz, strB_size]; omega
  rw [hz]
  have HZ := Lib.hid hz
  clear hz
  obtain ⟨m, hm⟩ : ∃ m, kids.length = m := ⟨_, rfl⟩
  rw [tysC_eq] at hk
  rw [hm] at hwd ⊢
  have HK := Lib.hid hk
  have HM := Lib.hid hm
  have HX := Lib.hid hX
  have HC := Lib.hid (fun (W : World) => s_clone z W hzs)
  have hmake : ∀ W, ∃ mk, Sem.run Tryd.prog (Instr.makeSlice 45 (.int .i64 (m : Int)) (.int .i64 (m : Int))) W = .ok (.slice (some ⟨W.heap.size, 0, none⟩) m m) (W.alloc (.cells mk 47)) ∧ RowsIn 4 (W.alloc (.cells mk 47)) W.heap.size (List.replicate m tZero) := fun W => by
    refine ⟨madeCells (tZero : List Value).toArray (m * 4), ?_, RowsIn.made W tZero m _ rfl⟩
    have := run_makeSlice (P := Tryd.prog) (w := W) 45 47 i0 _ Tryd.underlying45 hi0 hz0 .i64 .i64 (m : Int) (m : Int) (by omega) (Int.le_refl _) (by rw [hz1]; omega) (by rw [hz2]; omega) (by omega)
    rw [hz1] at this
    simpa [Value.cells, tZero] using this
  have HMK := Lib.hid hmake
  clear hmake hi0 hz0 hz1 hz2
  have hb0 : Below w.heap.size w (w.alloc (.cells #[.int .i64 k, .int .i64 n, .string z, .slice a m c] 47)) := (Below.refl _ w).alloc (Nat.le_refl _) _
  obtain ⟨W1, hW1⟩ : ∃ W1, (w.alloc (.cells #[.int .i64 k, .int .i64 n, .string z, .slice a m c] 47)).alloc (.cells #[.int .i64 0, .int .i64 0, .string ⟨#[]⟩, .slice none 0 0] 47) = W1 := ⟨_, rfl⟩
  have hB1 : Below w.heap.size w W1 := hW1 ▸ hb0.alloc hb0.size _
  have hs1 : W1.heap.size = w.heap.size + 2 := by rw [← hW1]; simp
  have hx0 : Box W1 w.heap.size 47 [.int .i64 k, .int .i64 n, .string z, .slice a m c] := hW1 ▸ (Box.new w 47 [.int .i64 k, .int .i64 n, .string z, .slice a m c]).alloc _
  have hx1 : Box W1 (w.heap.size + 1) 47 tZero := by
    rw [← hW1]
    have := Box.new (w.alloc (.cells #[.int .i64 k, .int .i64 n, .string z, .slice a m c] 47)) 47 tZero
    rwa [World.size_alloc] at this
  have HX0 := Lib.hid hx0
  have HX1 := Lib.hid hx1
  have HB1 := Lib.hid hB1
  have hl0 := hx0.lt
  obtain ⟨_, _, _, _⟩ := four_cells hx0
  obtain ⟨_, _, _, _⟩ := four_frozen hx0
  clear hb0 hB1 hx0 hx1 hv hk hX hm hzs
  go_enter Tryd.func89, Tryd.ntmps89
  go_upto_region 4 with (go_at_call 111; (with_reducible refine (HC.out _).mono ?_); rintro e w2 ⟨rfl, hb2⟩; have hy0 := HX0.out.below hb2; obtain ⟨_, _, _, _⟩ := four_cells hy0; obtain ⟨_, _, _, _⟩ := four_frozen hy0; have hy0l := hy0.lt; have HY0 := Lib.hid hy0; have HY1 := Lib.hid (HX1.out.below hb2); have HB2 := Lib.hid (HB1.out.trans (hb2.mono HB1.out.size)); have hs2 := hb2.size; clear hb2 hy0)
  obtain ⟨W3, hW3⟩ : ∃ W3, ((w2.setCell ⟨w.heap.size, 2, none⟩ (.string z)).setCell ⟨w.heap.size, 3, none⟩ (.slice none 0 0)) = W3 := ⟨_, rfl⟩
  have HZ0 : Hid (Box W3 w.heap.size 47 [.int .i64 k, .int .i64 n, .string z, .slice none 0 0]) := hW3 ▸ (HY0.out.set 2 (.string z)).set 3 (.slice none 0 0)
  have HZ1 : Hid (Box W3 (w.heap.size + 1) 47 tZero) := hW3 ▸ (HY1.out.setOther (a := ⟨w.heap.size, 2, none⟩) (by show w.heap.size + 1 ≠ w.heap.size; omega) (.string z)).setOther (a := ⟨w.heap.size, 3, none⟩) (by show w.heap.size + 1 ≠ w.heap.size; omega) (.slice none 0 0)
  have HB3 : Hid (Below w.heap.size w W3) := hW3 ▸ (HB2.out.setCell (p := ⟨w.heap.size, 2, none⟩) (Nat.le_refl _) _).setCell (p := ⟨w.heap.size, 3, none⟩) (Nat.le_refl _) _
  have hs3 : w.heap.size + 2 ≤ W3.heap.size := by rw [← hW3]; simp; omega
  rw [hW3]
  clear hW3 HX0 HX1 HY0 HY1 HB1 HB2 HC
  rename_i d1 d2 d3 d4 d5 d6 d7 d8 d9 d10 d11 d12 d13 d14 d15 d16 d17 d18 d19 d20
  clear hW1 d1 d2 d4 d5 d6 d7 d9 d10 d11 d13 d14 d15 d16
  obtain ⟨_, _, _, _⟩ := four_cells HZ0.out
  obtain ⟨_, _, _, _⟩ := four_frozen HZ0.out
  have hz0l := HZ0.out.lt
  obtain ⟨_, _, _, _⟩ := four_cells HZ1.out
  obtain ⟨_, _, _, _⟩ := four_frozen HZ1.out
  have hz1l := HZ1.out.lt
  by_cases hm0 : m = 0
  · have hkn : kids = [] := List.eq_nil_of_length_eq_zero (by rw [HM.out]; exact hm0)
    have HKN := Lib.hid hkn
    obtain rfl : m = 0 := hm0
    clear hkn HMK HK HX
    go_wp2_with fail
    go_rounds 1
    go_wp2_with fail
    refine bodyPost_ret (v := .agg #[.int .i64 k, .int .i64 n, .string z, .slice none 0 0]) (by simp only [results, Tryd.results89]; go_simp <;> rfl) rfl ?_
    refine ⟨_, rfl, ?_, ?_⟩
    · rw [HKN.out, ← HZ.out]; exact IsV.of_ty (.e _ _ _)
    · exact (((HB3.out.setCell (p := ⟨w.heap.size + 1, 0, none⟩) (by show w.heap.size ≤ w.heap.size + 1; omega) _).setCell (p := ⟨w.heap.size + 1, 1, none⟩) (by show w.heap.size ≤ w.heap.size + 1; omega) _).setCell (p := ⟨w.heap.size + 1, 2, none⟩) (by show w.heap.size ≤ w.heap.size + 1; omega) _).setCell (p := ⟨w.heap.size + 1, 3, none⟩) (by show w.heap.size ≤ w.heap.size + 1; omega) _
  · have hmp : decide ((0 : Int) < (m : Int)) = true := decide_eq_true (by omega)
    have hmn : decide (0 < m) = true := decide_eq_true (by omega)
    obtain ⟨mk, hm1, hm2⟩ := HMK.out W3
    obtain ⟨kb, hkb⟩ : ∃ kb, W3.heap.size = kb := ⟨_, rfl⟩
    obtain ⟨W4, hW4⟩ : ∃ W4, (W3.alloc (.cells mk 47)).setCell ⟨w.heap.size, 3, none⟩ (.slice (some ⟨W3.heap.size, 0, none⟩) m m) = W4 := ⟨_, rfl⟩
    have HV0 : Hid (Box W4 w.heap.size 47 [.int .i64 k, .int .i64 n, .string z, .slice (some ⟨kb, 0, none⟩) m m]) := hW4 ▸ hkb ▸ (HZ0.out.alloc (.cells mk 47)).set 3 (.slice (some ⟨W3.heap.size, 0, none⟩) m m)
    have HV1 : Hid (Box W4 (w.heap.size + 1) 47 tZero) := hW4 ▸ (HZ1.out.alloc (.cells mk 47)).setOther (a := ⟨w.heap.size, 3, none⟩) (by show w.heap.size + 1 ≠ w.heap.size; omega) _
    have HR4 : Hid (RowsIn 4 W4 kb (List.replicate m tZero)) := hW4 ▸ hkb ▸ hm2.agree (Below.heap_setCell _ ⟨w.heap.size, 3, none⟩ _ _ (by show W3.heap.size ≠ w.heap.size; omega)) (by simp)
    have HB4 : Hid (Below w.heap.size w W4) := hW4 ▸ (HB3.out.alloc HB3.out.size _).setCell (p := ⟨w.heap.size, 3, none⟩) (Nat.le_refl _) _
    have hkb4 : kb < W4.heap.size := HR4.out.1
    have hkw : w.heap.size + 2 ≤ kb := by omega
    have hza := HZ0.out.alloc (.cells mk 47)
    obtain ⟨_, _, _, _⟩ := four_cells hza
    obtain ⟨_, _, _, _⟩ := four_frozen hza
    have hzal := hza.lt
    have HKB := Lib.hid hkb
    clear HMK hm2 HZ0 HZ1 HB3 hkb hza
    go_wp2_with fail
    try rw [hW4]
    clear hW4 hm1
    have hkb := HKB.out
    try rw [hkb]
    clear hkb
    go_loopw [24] (fun iv wr => ∃ (i : Nat) (done : List (List Value)), i ≤ m ∧ iv = .int .i64 (i : Int) ∧ Hid (done.length = i ∧ ∀ y ∈ done, y.length = 4) ∧ Hid (RowsIn 4 wr kb (done ++ List.replicate (m - i) tZero)) ∧ Hid (InS (fun q => kb < q) wr (((kids.take i).map g).flatMap tyC) done.flatten) ∧ Hid (Out (fun q => q = kb) W4 wr)) (fun iv _ => m - (intOf iv).toNat)
    case atStart => exact ⟨0, [], Nat.zero_le _, rfl, ⟨rfl, fun y hy => by cases hy⟩, by simpa [Hid] using HR4.out, by simpa [Hid] using InS.nil, Out.refl _ _⟩
    case round =>
      obtain ⟨i, done, hi, rfl, HD, HR, HI, HO⟩ := hrel
      obtain ⟨wo, rfl⟩ : ∃ wo, wo = wr := ⟨wr, rfl⟩
      have hbx := HO.out.box HV0.out (show ¬ (w.heap.size = kb) by omega)
      have hby := HO.out.box HV1.out (show ¬ (w.heap.size + 1 = kb) by omega)
      have HBw : Hid (Below w.heap.size w wo) := HB4.out.trans (HO.out.below HB4.out.size (fun q hq => by show ¬ (q = kb); omega))
      have hkwo : kb < wo.heap.size := HR.out.1
      obtain ⟨_, _, _, _⟩ := four_cells hbx
      have hbl := hbx.lt
      by_cases hlt : i < m
      · obtain ⟨x, hx⟩ : ∃ x, kids[i]? = some x := ⟨_, List.getElem?_eq_getElem (by rw [HM.out]; exact hlt)⟩
        obtain ⟨gk, off, k', n', s', a', m', c', rfl, hgr, hgw, hxv, f1, f2, f3, f4, q0, q1, q2, q3⟩ := kid_cells HK.out hx HBw.out
        clear f1 f2 f3 f4
        have hxm := List.mem_of_getElem? hx
        obtain ⟨z', hz'⟩ : ∃ z', strB s' = z' := ⟨_, rfl⟩
        rw [hz'] at hxv q2
        have HTK : Hid ((kids.take (i + 1)).map g = (kids.take i).map g ++ [g x]) := by show _ = _; rw [take_snoc' hx]; simp
        have hrow : (done ++ List.replicate (m - i) tZero)[i]? = some tZero := by
          rw [List.getElem?_append_right (by rw [HD.out.1]; exact Nat.le_refl _), HD.out.1, Nat.sub_self, List.getElem?_replicate, if_pos (by omega)]
        have hlen4 : ∀ y ∈ done ++ List.replicate (m - i) tZero, y.length = 4 := fun y hy => by
          rcases List.mem_append.1 hy with h | h
          · exact HD.out.2 y h
          · rw [List.eq_of_mem_replicate h]; rfl
        have HROW := Lib.hid hrow
        have HL4 := Lib.hid hlen4
        have HC2 : Hid (∀ W', Below wo.heap.size wo W' → Calls Tryd.prog 59 #[(.agg #[.int .i64 k', .int .i64 n', .string z', .slice a' m' c'])] W' fun e w' => ∃ v, e = .returned v ∧ IsV (New W') w' (tyC (g x)) v ∧ Below W'.heap.size W' w') := fun W' hW' => HX.out x hxm S _ W' (HBw.out.trans (hW'.mono HBw.out.size)) (hxv.under hW')
        have T1 : ∀ W, Sem.run Tryd.prog (Instr.indexAt 45 (.slice (some ⟨gk, off, none⟩) m c) (.int .i64 (i : Int))) W = .ok (.pointer (some ⟨gk, off + i * 4, none⟩)) W := fun W => by go_simp
        have T2 : ∀ W, Sem.run Tryd.prog (Instr.indexAt 45 (.slice (some ⟨kb, 0, none⟩) m m) (.int .i64 (i : Int))) W = .ok (.pointer (some ⟨kb, i * 4, none⟩)) W := fun W => by go_simp
        have HBX := Lib.hid hbx
        clear hx hxv hz' hrow hlen4 hbx hby
        go_upto_region 9 with fail
        obtain ⟨W5, hW5⟩ : ∃ W5, wo.alloc (.cells #[.int .i64 k', .int .i64 n', .string z', .slice a' m' c'] 47) = W5 := ⟨_, rfl⟩
        have HB5 : Hid (Below wo.heap.size wo W5) := hW5 ▸ (Below.refl _ wo).alloc (Nat.le_refl _) _
        have hkx : Box W5 wo.heap.size 47 [.int .i64 k', .int .i64 n', .string z', .slice a' m' c'] := hW5 ▸ Box.new wo 47 [.int .i64 k', .int .i64 n', .string z', .slice a' m' c']
        try rw [hW5]
        clear hW5
        have hb5 := HBX.out.below HB5.out
        obtain ⟨_, _, _, _⟩ := four_cells hb5
        obtain ⟨_, _, _, _⟩ := four_cells hkx
        have hb5l := hb5.lt
        have hk5l := hkx.lt
        have HX5 := Lib.hid hb5
        have HR5 := Lib.hid (HR.out.agree (HB5.out.block kb hkwo) HB5.out.size)
        have hk5 : kb < W5.heap.size := HR5.out.1
        clear hb5 hkx
        go_region_with (go_at_call 59; (with_reducible refine (HC2.out _ HB5.out.drew).mono ?_); rintro e wz ⟨v, rfl, hv, hbz⟩; have HV := Lib.hid hv; obtain ⟨y0, y1, y2, y3, y4, y5, rfl⟩ := hv.tys; have h5 := HX5.out.drew.below hbz; obtain ⟨_, _, _, _⟩ := four_cells h5; have h5l := h5.lt; have hr := HR5.out.agree (hbz.block kb hk5) hbz.size; obtain ⟨_, _, _, _, _, _, _, _⟩ := row_at hr HROW.out; have hrl := hr.1; have HRZ := Lib.hid hr; have HBZ := Lib.hid hbz; clear hv hbz h5 hr)
        all_goals (
          have HD9 : Hid ((done ++ [[Value.int .i64 y0, .int .i64 y1, .string (strB y2), .slice y3 y4 y5]]).length = i + 1 ∧ ∀ y ∈ done ++ [[Value.int .i64 y0, .int .i64 y1, .string (strB y2), .slice y3 y4 y5]], y.length = 4) := ⟨by simp [HD.out.1], fun y hy => by
            rcases List.mem_append.1 hy with h | h
            · exact HD.out.2 y h
            · simp at h; rw [h]; rfl⟩
          have HR9 : Hid (RowsIn 4 ((((wz.setCell ⟨kb, i * 4, none⟩ (.int .i64 y0)).setCell ⟨kb, i * 4 + 1, none⟩ (.int .i64 y1)).setCell ⟨kb, i * 4 + 2, none⟩ (.string (strB y2))).setCell ⟨kb, i * 4 + 3, none⟩ (.slice y3 y4 y5)) kb ((done ++ [[Value.int .i64 y0, .int .i64 y1, .string (strB y2), .slice y3 y4 y5]]) ++ List.replicate (m - (i + 1)) tZero)) := by
            have h := HRZ.out.put4 HROW.out HL4.out (.int .i64 y0) (.int .i64 y1) (.string (strB y2)) (.slice y3 y4 y5)
            rw [rows_set HD.out.1 hlt] at h
            exact h
          have HI9 : Hid (InS (fun q => kb < q) ((((wz.setCell ⟨kb, i * 4, none⟩ (.int .i64 y0)).setCell ⟨kb, i * 4 + 1, none⟩ (.int .i64 y1)).setCell ⟨kb, i * 4 + 2, none⟩ (.string (strB y2))).setCell ⟨kb, i * 4 + 3, none⟩ (.slice y3 y4 y5)) (((kids.take (i + 1)).map g).flatMap tyC) (done ++ [[Value.int .i64 y0, .int .i64 y1, .string (strB y2), .slice y3 y4 y5]]).flatten) := by
            show InS _ _ _ _
            rw [HTK.out, List.flatMap_append, List.flatten_append]
            have h1 := ((HI.out.under HB5.out).drew).under HBZ.out
            have h2 := (HV.out.cells).mono (S' := fun q => kb < q) (fun b _ h => by have : W5.heap.size ≤ b := h; show kb < b; omega)
            have h3 : InS (fun q => kb < q) wz (((kids.take i).map g).flatMap tyC ++ [g x].flatMap tyC) (done.flatten ++ [[Value.int .i64 y0, .int .i64 y1, .string (strB y2), .slice y3 y4 y5]].flatten) := h1.app (by simpa [Value.cells] using h2)
            exact (((h3.set (p := ⟨kb, i * 4, none⟩) (fun _ h => Nat.lt_irrefl _ h) _).set (p := ⟨kb, i * 4 + 1, none⟩) (fun _ h => Nat.lt_irrefl _ h) _).set (p := ⟨kb, i * 4 + 2, none⟩) (fun _ h => Nat.lt_irrefl _ h) _).set (p := ⟨kb, i * 4 + 3, none⟩) (fun _ h => Nat.lt_irrefl _ h) _
          have HO9 : Hid (Out (fun q => q = kb) W4 ((((wz.setCell ⟨kb, i * 4, none⟩ (.int .i64 y0)).setCell ⟨kb, i * 4 + 1, none⟩ (.int .i64 y1)).setCell ⟨kb, i * 4 + 2, none⟩ (.string (strB y2))).setCell ⟨kb, i * 4 + 3, none⟩ (.slice y3 y4 y5))) := ((((((HO.out.next HB5.out).drew.next HBZ.out).setCell (p := ⟨kb, i * 4, none⟩) (.inl rfl) _).setCell (p := ⟨kb, i * 4 + 1, none⟩) (.inl rfl) _).setCell (p := ⟨kb, i * 4 + 2, none⟩) (.inl rfl) _).setCell (p := ⟨kb, i * 4 + 3, none⟩) (.inl rfl) _)
          clear HC2 HX5 HR5 HRZ
          go_wp2_with fail
          go_roundw
          case rel => exact ⟨i + 1, done ++ [[Value.int .i64 y0, .int .i64 y1, .string (strB y2), .slice y3 y4 y5]], by omega, by go_num, HD9, HR9, HI9, HO9⟩
          case measure => (simp [intOf]; omega))
      · have him : i = m := by omega
        have HIM := Lib.hid him
        subst him
        obtain ⟨_, _, _, _⟩ := four_cells hby
        obtain ⟨_, _, _, _⟩ := four_frozen hby
        have hbyl := hby.lt
        clear hbx hby
        go_wp2_with fail
        refine bodyPost_ret (v := .agg #[.int .i64 k, .int .i64 n, .string z, .slice (some ⟨kb, 0, none⟩) i i]) (by simp only [results, Tryd.results89]; go_simp <;> rfl) rfl ?_
        refine ⟨_, rfl, ?_, ?_⟩
        · have h1 : (kids.take i).map g = kids.map g := by rw [List.take_of_length_le (by rw [HM.out]; exact Nat.le_refl _)]
          have h2 := HI.out
          rw [h1] at h2
          have h3 := HR.out
          rw [Nat.sub_self, List.replicate_zero, List.append_nil] at h3
          have hd4 : done.flatten.length = i * 4 := by
            have := flat4 HD.out.2
            rw [HD.out.1] at this; exact this
          have h4 : InC (fun q => kb ≤ q) wo (.s i 4 ((kids.map g).flatMap tyC)) (.slice (some ⟨kb, 0, none⟩) i i) := by
            refine .s i 4 _ kb 0 i done.flatten (Nat.le_refl _) hkwo (by rw [← h2.1, hd4]) h2.1 (by omega) (Nat.le_refl _) (by unfold maxLen; omega) (fun j u hj => ?_) (fun j c u h5 h6 => (h2.2 j c u h5 h6).mono fun b _ h => Nat.le_of_lt h)
            exact rows_flat (off := 0) (fun i x hx j v hv => by rw [Nat.zero_add]; exact (h3.2 i x hx j v hv).1) HD.out.2 j u hj
          have h5 := (((h4.set (p := ⟨w.heap.size + 1, 0, none⟩) (fun _ h => by have : kb ≤ w.heap.size + 1 := h; omega) (.int .i64 k)).set (p := ⟨w.heap.size + 1, 1, none⟩) (fun _ h => by have : kb ≤ w.heap.size + 1 := h; omega) (.int .i64 n)).set (p := ⟨w.heap.size + 1, 2, none⟩) (fun _ h => by have : kb ≤ w.heap.size + 1 := h; omega) (.string z)).set (p := ⟨w.heap.size + 1, 3, none⟩) (fun _ h => by have : kb ≤ w.heap.size + 1 := h; omega) (.slice (some ⟨kb, 0, none⟩) i i)
          have h6 := h5.mono (S' := New w) (fun b _ h => by have : kb ≤ b := h; show w.heap.size ≤ b; omega)
          rw [← HZ.out]
          rw [← HZ.out] at h6
          refine IsV.of_ty ?_
          rw [tysC_eq, List.length_map, HM.out]
          exact h6
        · exact (((HBw.out.setCell (p := ⟨w.heap.size + 1, 0, none⟩) (by show w.heap.size ≤ w.heap.size + 1; omega) _).setCell (p := ⟨w.heap.size + 1, 1, none⟩) (by show w.heap.size ≤ w.heap.size + 1; omega) _).setCell (p := ⟨w.heap.size + 1, 2, none⟩) (by show w.heap.size ≤ w.heap.size + 1; omega) _).setCell (p := ⟨w.heap.size + 1, 3, none⟩) (by show w.heap.size ≤ w.heap.size + 1; omega) _

end Go.Proofs.YtpfcpeljfgmjgaaDoor
