/- Package term: find, Vars. -/
import Derived.Test.YtpfcpeljfgmjgaaDoorKfr
import Derived.Test.YtpfcpeljfgmjgaaDoorKna
namespace Go.Proofs.YtpfcpeljfgmjgaaDoor
open Go.RowKit Go.Maps
set_option linter.unusedVariables false
set_option linter.unusedSimpArgs false

theorem Tryd.kti : (47 : TypeId) ≠ 3 := by decide
def FindB (x : Ty) : Prop := ∀ (B fb mb : Nat) (l : List Int) (u : Value) (w : World), (∃ v, FD w B fb mb l v) → IsV (fun q => q < B) w (tyC x) u → (∀ v ∈ x.vs, fits17 v) → l.length + x.nn ≤ 10000000000 → B ≤ w.heap.size →
  Calls Tryd.prog 55 #[.pointer (some ⟨fb, 0, none⟩), u] w fun e w' => e = .returned (.tuple #[]) ∧ Found B fb mb (x.vs.foldl addV l) w w'
theorem IsV.belowB {B : Nat} {w w' : World} {cs : List Cl} {v : Value} (h : IsV (fun q => q < B) w cs v) (hb : Below B w w') : IsV (fun q => q < B) w' cs v := h.agree (fun b h1 h2 => ⟨h1, hb.block b h1⟩) hb.size
theorem InC.belowB {B : Nat} {w w' : World} {c : Cl} {v : Value} (h : InC (fun q => q < B) w c v) (hb : Below B w w') : InC (fun q => q < B) w' c v := h.agree (fun b h1 h2 => ⟨h1, hb.block b h1⟩) hb.size
/-- A kid's cells, in blocks below B. -/
theorem kid_cellsB {B : Nat} {w wr : World} {kids : List Ty} {a : Option Addr} {m c i : Nat} {x : Ty} (h : InC (fun q => q < B) w (.s kids.length 4 (kids.flatMap tyC)) (.slice a m c)) (hx : kids[i]? = some x) (hb : Below B w wr) :
    ∃ (g off : Nat) (k n : Int) (s : By) (a' : Option Addr) (m' c' : Nat), a = some ⟨g, off, none⟩ ∧ g < wr.heap.size ∧ IsV (fun q => q < B) wr (tyC x) (.agg #[.int .i64 k, .int .i64 n, .string (strB s), .slice a' m' c']) ∧ x.nm = s ∧ x.kd = k ∧ x.num = n ∧ m' = x.kids.length
      ∧ wr.cell? ⟨g, off + i * 4, none⟩ = some (.int .i64 k) ∧ wr.cell? ⟨g, off + i * 4 + 1, none⟩ = some (.int .i64 n) ∧ wr.cell? ⟨g, off + i * 4 + 2, none⟩ = some (.string (strB s)) ∧ wr.cell? ⟨g, off + i * 4 + 3, none⟩ = some (.slice a' m' c') := by
  obtain ⟨g, off, k, n, s, a', m', c', h1, h2, h3, h4⟩ := kid_cells (h.belowB hb) hx (Below.refl _ _)
  exact ⟨g, off, k, n, s, a', m', c', h1, h2, h4⟩
theorem vss_snoc {l : List Ty} {i : Nat} {x : Ty} (h : l[i]? = some x) : Ty.vss (l.take (i + 1)) = Ty.vss (l.take i) ++ x.vs := by
  rw [take_snoc' h, Ty.vss_eq, Ty.vss_eq]; simp
theorem Found.start {B fb mb : Nat} {l : List Int} {w : World} (h : ∃ v, FD w B fb mb l v) : Found B fb mb l w w := ⟨h, Fr.refl _ _ _ _⟩
theorem vss_take (l : List Ty) (i : Nat) : (Ty.vss (l.take i)).length ≤ Ty.nns (l.take i) := by
  have := Ty.vs_len (.mk 0 0 [] (l.take i))
  have h0 : (0 : Int) ≠ 1 := by decide
  simp only [Ty.vs, Ty.nn, if_neg h0, List.nil_append] at this
  have h2 : ∀ l : List Ty, (Ty.vss l).length ≤ Ty.nns l := fun l => by
    induction l with
    | nil => simp [Ty.vss, Ty.nns]
    | cons x r ih => simp only [Ty.vss, Ty.nns, List.length_append]; have := x.vs_len; omega
  exact h2 _

set_option maxRecDepth 100000 in
set_option maxHeartbeats 8000000 in
theorem find_step (k n : Int) (s : By) (kids : List Ty) (hX : ∀ x ∈ kids, FindB x) : FindB (.mk k n s kids) := by
  intro B fb mb l u w hfd hv hfit hlen hB
  obtain ⟨a, c, rfl, hk⟩ := hv.ty
  have hLm := hk.max_len
  obtain ⟨z, hz⟩ : ∃ z, strB s = z := ⟨_, rfl⟩
  obtain ⟨m, hm⟩ : ∃ m, kids.length = m := ⟨_, rfl⟩
  rw [hz, hm]
  rw [tysC_eq] at hk
  have HK := Lib.hid hk
  have HM := Lib.hid hm
  have HX := Lib.hid hX
  rw [hm] at HK hLm
  obtain ⟨W1, hW1⟩ : ∃ W1, w.alloc (.cells #[.int .i64 k, .int .i64 n, .string z, .slice a m c] 47) = W1 := ⟨_, rfl⟩
  have hb1 : Below w.heap.size w W1 := hW1 ▸ (Below.refl _ w).alloc (Nat.le_refl _) _
  have hbx : Box W1 w.heap.size 47 [.int .i64 k, .int .i64 n, .string z, .slice a m c] := hW1 ▸ Box.new w 47 [.int .i64 k, .int .i64 n, .string z, .slice a m c]
  have hf1 : Found B fb mb l w W1 := ⟨by obtain ⟨v, h⟩ := hfd; exact ⟨v, h.agree hb1⟩, Fr.of_below hb1 hB⟩
  have hdis : ¬ FX fb mb w.heap.size := by
    obtain ⟨v, h⟩ := hfd
    have h1 := h.box.lt
    have h2 := h.map.lt
    rintro (e | e) <;> omega
  simp only [Ty.nn] at hlen
  have HFIT : Hid ((k = 1 → fits17 n) ∧ ∀ x ∈ kids, ∀ v ∈ x.vs, fits17 v) := ⟨fun e => hfit n (by simp [Ty.vs, e]), fun x hx v hv => hfit v (by simp only [Ty.vs, List.mem_append]; exact .inr (Ty.vss_mem hx hv))⟩
  have HLN : Hid (l.length + (1 + Ty.nns kids) ≤ 10000000000) := hlen
  obtain ⟨R, hR⟩ : ∃ R, (Ty.mk k n s kids).vs.foldl addV l = R := ⟨_, rfl⟩
  rw [hR]
  simp only [Ty.vs] at hR
  have HR := Lib.hid hR
  have HBX := Lib.hid hbx
  have HB := Lib.hid hB
  have HDIS := Lib.hid hdis
  obtain ⟨_, _, _, _⟩ := four_cells hbx
  have hl1 := hbx.lt
  have HF1 := Lib.hid hf1
  have HB1 : Hid (B ≤ W1.heap.size) := Nat.le_trans hB hb1.size
  have HWW : Hid (Below B w W1) := hb1.mono hB
  clear hfd hv hfit hlen hk hX hz hm hb1 hbx hf1 hdis hR hB
  have hkk : (k = 1 ∧ (k == 1) = true) ∨ (k ≠ 1 ∧ (k == 1) = false) := by
    by_cases h : k = 1
    · exact .inl ⟨h, by simp [h]⟩
    · exact .inr ⟨h, by simpa using h⟩
  obtain ⟨L0, hL0⟩ : ∃ L0, (if k = 1 then [n] else []).foldl addV l = L0 := ⟨_, rfl⟩
  have HL0 := Lib.hid hL0
  have HR0 : Hid ((Ty.vss kids).foldl addV L0 = R) := by show _ = _; rw [← hL0, ← List.foldl_append]; exact HR.out
  have HLL : Hid (L0.length ≤ l.length + 1) := by
    show _ ≤ _
    rw [← hL0]
    have := foldl_addV_len (if k = 1 then [n] else []) l
    have h2 : (if k = 1 then [n] else [] : List Int).length ≤ 1 := by split <;> simp
    omega
  have HBW : Hid (Below B w W1) := HWW.out
  clear hL0 HR HWW
  go_enter Tryd.func55, Tryd.ntmps55
  go_upto_if 8 with fail
  try rw [hW1]
  try clear hW1
  go_cut [] (fun wx => Found B fb mb L0 W1 wx)
  case first =>
    rcases hkk with ⟨hk1, e1⟩ | ⟨hk1, e1⟩
    · have hl0 : addV l n = L0 := by rw [← HL0.out, if_pos hk1]; rfl
      obtain ⟨v, hfd⟩ := HF1.out.1
      have HC := Lib.hid (ty_add W1 B fb mb l v n hfd (HFIT.out.1 hk1) (by have := HLN.out; omega) HB1.out)
      rw [hl0] at HC
      clear hl0 hfd hk1
      go_wp2_with (go_at_call 87; (with_reducible refine (HC.out).mono ?_); rintro e w2 ⟨rfl, hf2⟩)
      go_meet
      exact hf2
    · have hl0 : l = L0 := by rw [← HL0.out, if_neg hk1]; rfl
      have HF0 : Hid (Found B fb mb L0 W1 W1) := by show Found _ _ _ _ _ _; rw [← hl0]; exact Found.start HF1.out.1
      clear hl0 hk1
      go_wp2_with fail
      go_meet
      exact HF0.out
  case rest =>
    rename World => wx
    have HF2 := Lib.hid hcut
    have hb2 := hcut.2.box HBX.out HDIS.out Tryd.kti
    obtain ⟨_, _, _, _⟩ := four_cells hb2
    have hl2 := hb2.lt
    clear hcut hb2 hkk HL0
    go_wp2_with fail
    go_loopw [16] (fun iv wr => ∃ i : Nat, i ≤ m ∧ iv = .int .i64 (i : Int) ∧ Hid (Found B fb mb ((Ty.vss (kids.take i)).foldl addV L0) W1 wr)) (fun iv _ => m - (intOf iv).toNat)
    case atStart => exact ⟨0, Nat.zero_le _, rfl, by simpa [Hid, Ty.vss] using HF2.out⟩
    case round =>
      obtain ⟨i, hi, rfl, HF⟩ := hrel
      clear HF2
      by_cases hlt : i < m
      · obtain ⟨x, hx⟩ : ∃ x, kids[i]? = some x := ⟨_, List.getElem?_eq_getElem (by rw [HM.out]; exact hlt)⟩
        have hK9 := HK.out
        rw [← HM.out] at hK9
        obtain ⟨g, off, k', n', s', a', m', c', rfl, hgr, hxv, f1, f2, f3, f4, q0, q1, q2, q3⟩ := kid_cellsB hK9 hx (HBW.out.trans HF.out.2.bel)
        clear f1 f2 f3 f4
        have hxm := List.mem_of_getElem? hx
        obtain ⟨z', hz'⟩ : ∃ z', strB s' = z' := ⟨_, rfl⟩
        rw [hz'] at hxv q2
        have HTK : Hid ((Ty.vss (kids.take (i + 1))).foldl addV L0 = x.vs.foldl addV ((Ty.vss (kids.take i)).foldl addV L0)) := by show _ = _; rw [vss_snoc hx, List.foldl_append]
        have hln : ((Ty.vss (kids.take i)).foldl addV L0).length + x.nn ≤ 10000000000 := by
          have h1 := foldl_addV_len (Ty.vss (kids.take i)) L0
          have h2 := vss_take kids i
          have h3 := nns_snoc hx
          have h4 := Ty.nns_take kids (i + 1)
          have h5 := HLL.out
          have h6 := HLN.out
          omega
        obtain ⟨W5, hW5⟩ : ∃ W5, wr.alloc (.cells #[.int .i64 k', .int .i64 n', .string z', .slice a' m' c'] 47) = W5 := ⟨_, rfl⟩
        have hb5 : Below wr.heap.size wr W5 := hW5 ▸ (Below.refl _ wr).alloc (Nat.le_refl _) _
        have hk5 : Box W5 wr.heap.size 47 [.int .i64 k', .int .i64 n', .string z', .slice a' m' c'] := hW5 ▸ Box.new wr 47 [.int .i64 k', .int .i64 n', .string z', .slice a' m' c']
        have hBr : B ≤ wr.heap.size := Nat.le_trans HB1.out HF.out.2.size
        have HF5 : Hid (Fr B (FX fb mb) 3 W1 W5) := HF.out.2.next hb5 HB1.out
        have HC : Hid (Calls Tryd.prog 55 #[.pointer (some ⟨fb, 0, none⟩), .agg #[.int .i64 k', .int .i64 n', .string z', .slice a' m' c']] W5 fun e w' => e = .returned (.tuple #[]) ∧ Found B fb mb (x.vs.foldl addV ((Ty.vss (kids.take i)).foldl addV L0)) W5 w') :=
          HX.out x hxm B fb mb _ _ W5 (by obtain ⟨v, h⟩ := HF.out.1; exact ⟨v, h.agree hb5⟩) (hxv.belowB (hb5.mono hBr)) (HFIT.out.2 x hxm) hln (Nat.le_trans hBr hb5.size)
        have T1 : ∀ W, Sem.run Tryd.prog (Instr.indexAt 45 (.slice (some ⟨g, off, none⟩) m c) (.int .i64 (i : Int))) W = .ok (.pointer (some ⟨g, off + i * 4, none⟩)) W := fun W => by go_simp
        rw [← HTK.out] at HC
        clear hx hxv hz' hK9 hln hb5 hxm
        obtain ⟨_, _, _, _⟩ := four_cells hk5
        have hkl5 := hk5.lt
        clear hk5
        go_upto_region 6 with fail
        try rw [hW5]
        try clear hW5
        go_wp2_with (go_at_call 55; (with_reducible refine (HC.out).mono ?_); rintro e w6 ⟨rfl, hf6⟩; have HF6 : Hid (Found B fb mb ((Ty.vss (kids.take (i + 1))).foldl addV L0) W1 w6) := ⟨hf6.1, HF5.out.trans hf6.2⟩; clear hf6)
        go_roundw
        case rel => exact ⟨i + 1, by omega, by go_num, HF6⟩
        case measure => simp [intOf]; omega
      · have him : i = m := by omega
        subst him
        go_wp2_with fail
        go_end0
        refine ⟨rfl, ?_⟩
        have h := HF.out
        rw [List.take_of_length_le (by rw [HM.out]; exact Nat.le_refl _), HR0.out] at h
        exact ⟨h.1, HF1.out.2.trans h.2⟩
theorem ty_find (x : Ty) : FindB x := Ty.ind (P := FindB) (fun k n s kids ih => find_step k n s kids ih) x

/-! ### Vars -/
set_option maxRecDepth 100000 in
set_option maxHeartbeats 4000000 in
/-- Vars, of a type that may be. -/
theorem ty_Vars (x : Ty) (S : Nat → Prop) (u : Value) (w : World) (hv : IsV S w (tyC x) u) (hm : mayL 100 x = true) (hnn : x.nn ≤ 10000000000) :
    Calls Tryd.prog 27 #[u] w fun e w' => ∃ a c, e = .returned (.slice a (varsL x).length c) ∧ Row w.heap.size w'.heap.size w' a (varsL x).length (varsL x) ∧ Below w.heap.size w w' := by
  have hmm := @run_makeMap Tryd.prog
  have hlim := mayL_lim 100 x hm
  obtain ⟨W1, hW1⟩ : ∃ W1, w.alloc (.cells u.cells 47) = W1 := ⟨_, rfl⟩
  have hb1 : Below w.heap.size w W1 := hW1 ▸ (Below.refl _ w).alloc (Nat.le_refl _) _
  have HMY := Lib.hid (ty_May x S u W1 (hv.under hb1) (by unfold maxLen; omega))
  rw [hm] at HMY
  have hvB : IsV (fun q => q < w.heap.size) w (tyC x) u := hv.mono fun q h1 _ => h1
  have HFD : Hid (∀ W' : World, Below w.heap.size w W' → Below w.heap.size w (W'.alloc (.map #[] 0)) → Calls Tryd.prog 55 #[.pointer (some ⟨W'.heap.size + 1, 0, none⟩), u] ((W'.alloc (.map #[] 0)).alloc (.cells #[.map (some W'.heap.size), .slice none 0 0] 108)) fun e w'' => e = .returned (.tuple #[]) ∧ Found w.heap.size (W'.heap.size + 1) W'.heap.size (varsL x) ((W'.alloc (.map #[] 0)).alloc (.cells #[.map (some W'.heap.size), .slice none 0 0] 108)) w'') := fun W' hW' hW2 => by
    have hbx := Box.new (W'.alloc (.map #[] 0)) 108 [.map (some W'.heap.size), .slice none 0 0]
    rw [World.size_alloc] at hbx
    have hs := hW'.size
    exact ty_find x w.heap.size (W'.heap.size + 1) W'.heap.size [] u _ ⟨.slice none 0 0, hbx, (VM.made W').agree (Below.heap_alloc _ _ _ (by simp)), World.ownsRow_nil _ _ _ _, by omega, by omega, hs⟩ (hvB.belowB (hW2.alloc (by rw [World.size_alloc]; omega) _)) (fun v hv => by have := mayL_vs 100 x hm v hv; unfold fits17; omega) (by simpa using hnn) (by simp; omega)
  obtain ⟨V, hV⟩ : ∃ V, varsL x = V := ⟨_, rfl⟩
  rw [hV] at HFD ⊢
  obtain ⟨k, n, s, kids⟩ := x
  obtain ⟨a, c, rfl, hk⟩ := hv.ty
  obtain ⟨z, hz⟩ : ∃ z, strB s = z := ⟨_, rfl⟩
  obtain ⟨m, hm9⟩ : ∃ m, kids.length = m := ⟨_, rfl⟩
  have hx0 : Box W1 w.heap.size 47 [.int .i64 k, .int .i64 n, .string z, .slice a m c] := by
    rw [← hW1, ← hz, ← hm9]
    exact Box.new w 47 [.int .i64 k, .int .i64 n, .string (strB s), .slice a kids.length c]
  rw [hz, hm9] at HFD HMY
  rw [hz, hm9] at hW1
  rw [hz, hm9]
  have hW2 : w.alloc (.cells #[.int .i64 k, .int .i64 n, .string z, .slice a m c] 47) = W1 := hW1
  have HX0 := Lib.hid hx0
  have HB1 := Lib.hid hb1
  obtain ⟨_, _, _, _⟩ := four_cells hx0
  have hl0 := hx0.lt
  clear hv hk hz hm9 hV hm hlim hb1 hx0 hW1 hvB hnn
  go_enter Tryd.func27, Tryd.ntmps27
  go_upto_region 1 with fail
  try rw [hW2]
  try clear hW2
  go_upto_region 4 with (go_at_call 20; (with_reducible refine (HMY.out).mono ?_); rintro e w2 ⟨rfl, hb2⟩; have hy0 := HX0.out.below hb2; obtain ⟨_, _, _, _⟩ := four_cells hy0; have hy0l := hy0.lt; have HB2 := Lib.hid (HB1.out.trans (hb2.mono HB1.out.size)); clear hb2 hy0)
  go_wp2_with (go_at_call 55; (with_reducible refine (HFD.out w2 HB2.out (HB2.out.alloc HB2.out.size _)).mono ?_); rintro e w3 ⟨rfl, ⟨v, hfd⟩, hfr⟩; obtain ⟨av, cv, rfl, hrow⟩ := RowF.of_owns (f := Value.int .i64) (d := (0 : Int)) hfd.own; obtain ⟨_, _, _, _⟩ := two_all17 hfd.box; have hfl := hfd.box.lt; have HROW := Lib.hid hrow; have HB3 := Lib.hid (((HB2.out.alloc HB2.out.size (.map #[] 0)).alloc (Nat.le_trans HB2.out.size (by rw [World.size_alloc]; omega)) (.cells #[.map (some w2.heap.size), .slice none 0 0] 108)).trans hfr.bel); clear hrow hfr hfd)
  go_ret
  exact ⟨av, cv, rfl, HROW.out, HB3.out⟩

end Go.Proofs.YtpfcpeljfgmjgaaDoor
