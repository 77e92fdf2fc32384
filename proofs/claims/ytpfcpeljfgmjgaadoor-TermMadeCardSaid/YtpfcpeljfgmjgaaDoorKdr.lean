/- The document's renamed, Subst, Canon (reference 15). -/
import Derived.Test.YtpfcpeljfgmjgaaDoorKds
import Derived.Deep.RegionWith
namespace Go.Proofs.YtpfcpeljfgmjgaaDoor
open Go.RowKit Go.Maps
set_option linter.unusedVariables false
set_option linter.unusedSimpArgs false

def RenB (L : List Int) (x : Ty) : Prop := ∀ (B : Nat) (u : Value) (al : Option Addr) (nl cl : Nat) (w : World), B ≤ w.heap.size → IsV (fun q => q < B) w (tyC x) u → Row 0 B w al nl L ∧ nl ≤ 10000000000 → okT x →
  Calls Tryd.prog 62 #[u, .slice al nl cl] w fun e w' => ∃ v, e = .returned v ∧ IsV (ON 0 w.heap.size) w' (tyC (x.rep (fun n => vrT (idxV L n)))) v ∧ Below w.heap.size w w'

set_option maxRecDepth 100000 in
set_option maxHeartbeats 16000000 in
theorem rren_step (L : List Int) (k n : Int) (s : By) (kids : List Ty) (hX : ∀ x ∈ kids, RenB L x) : RenB L (.mk k n s kids) := by
  intro B u al nl cl w hB hv hl hok
  obtain ⟨i0, hi0, hy0, hy1, hy2⟩ := info_parts Tryd.zinfoT
  obtain ⟨a, c, rfl, hk⟩ := hv.ty
  have hLm := hk.max_len
  obtain ⟨d, hd⟩ := hok
  have hwd := (mayL_lim d _ hd).2
  simp only [Ty.wd] at hwd
  obtain ⟨d, rfl⟩ : ∃ e, d = e + 1 := ⟨d - 1, by cases d with
    | zero => simp [mayL] at hd
    | succ d => rfl⟩
  simp only [mayL, Bool.and_eq_true, List.all_eq_true] at hd
  obtain ⟨z, hz⟩ : ∃ z, strB s = z := ⟨_, rfl⟩
  obtain ⟨m, hm⟩ : ∃ m, kids.length = m := ⟨_, rfl⟩
  rw [hz, hm]
  have HZ := Lib.hid hz
  rw [tysC_eq] at hk
  have HK := Lib.hid hk
  have HM := Lib.hid hm
  have HX := Lib.hid hX
  have HD := Lib.hid hd
  have hm9 : m ≤ 1000 := by omega
  rw [hm] at HK hLm
  obtain ⟨W0, hW0⟩ : ∃ W0, (w.alloc (.cells #[.int .i64 k, .int .i64 n, .string z, .slice a m c] 47)).alloc (.cells #[.int .i64 0, .int .i64 0, .string ⟨#[]⟩, .slice none 0 0] 47) = W0 := ⟨_, rfl⟩
  have hs0 : W0.heap.size = w.heap.size + 2 := by rw [← hW0]; simp
  have hb0 : Below w.heap.size w W0 := hW0 ▸ ((Below.refl _ w).alloc (Nat.le_refl _) _).alloc (by simp) _
  have hbx : Box W0 w.heap.size 47 [.int .i64 k, .int .i64 n, .string z, .slice a m c] := hW0 ▸ (Box.new w 47 [.int .i64 k, .int .i64 n, .string z, .slice a m c]).alloc _
  have hrx : Box W0 (w.heap.size + 1) 47 tZero := by
    rw [← hW0]
    have := Box.new (w.alloc (.cells #[.int .i64 k, .int .i64 n, .string z, .slice a m c] 47)) 47 tZero
    rwa [World.size_alloc] at this
  have HBW := Lib.hid hb0
  have HBX := Lib.hid hbx
  have HRX := Lib.hid hrx
  obtain ⟨_, _, _, _⟩ := four_cells hbx
  have hbl := hbx.lt
  obtain ⟨_, _, _, _⟩ := four_cells hrx
  obtain ⟨_, _, _, _⟩ := four_frozen hrx
  have hrl := hrx.lt
  have HL := Lib.hid hl
  by_cases h1 : k = 1
  · subst h1
    have hrep : (Ty.mk 1 n s kids).rep (fun n => vrT (idxV L n)) = vrT (idxV L n) := by simp [Ty.rep]
    rw [hrep]
    have HPL := Lib.hid (r_place al nl cl L n W0 (hl.1.below (hb0.mono hB) (Nat.le_refl _)) (by have := hl.2; omega))
    obtain ⟨pl, hpl⟩ : ∃ pl, idxV L n = pl := ⟨_, rfl⟩
    rw [hpl] at HPL ⊢
    have HVR := Lib.hid (r_Var pl W0)
    clear hk hX hm hb0 hbx hrx hrep hwd hv hd hl HX HK HM HD hs0 hz hpl HL
    go_enter Tryd.func62, Tryd.ntmps62
    go_upto_region 1 with fail
    try rw [hW0]
    try clear hW0
    go_wp2_with (first
      | (go_at_call 88; (with_reducible refine (HPL.out).mono ?_); rintro e wz ⟨rfl, rfl⟩)
      | (go_at_call 35; (with_reducible refine (HVR.out).mono ?_); rintro e w2 ⟨rfl, hb2⟩; have hy := HRX.out.below hb2; obtain ⟨_, _, _, _⟩ := four_cells hy; obtain ⟨_, _, _, _⟩ := four_frozen hy; have hyl := hy.lt; have HB2 := Lib.hid (HBW.out.trans (hb2.mono HBW.out.size)); clear hb2 hy))
    refine bodyPost_ret (v := .agg #[.int .i64 1, .int .i64 pl, .string ⟨#[]⟩, .slice none 0 0]) (by simp only [results, Tryd.results62]; go_simp <;> rfl) rfl ?_
    exact ⟨_, rfl, vr_isV _ _ _, below_set4t HB2.out (by omega)⟩
  · have e1 : (k == 1) = false := by simpa using h1
    have hrep : (Ty.mk k n s kids).rep (fun n => vrT (idxV L n)) = .mk k n s (kids.map (Ty.rep (fun n => vrT (idxV L n)))) := by simp only [Ty.rep]; rw [if_neg h1, Ty.reps_eq]
    rw [hrep]
    clear hk hX hz hm hb0 hbx hrx h1 hrep hwd hv hd hl
    go_enter Tryd.func62, Tryd.ntmps62
    go_upto_region 1 with fail
    try rw [hW0]
    try clear hW0
    have HS0 := Lib.hid (KR.start (k := k) (n := n) (z := z) (B := 0) (s := w.heap.size) W0 (by omega) (by omega))
    obtain ⟨W1, hW1⟩ : ∃ W1, W0.alloc (.cells #[.int .i64 k, .int .i64 n, .string z, .slice none 0 0] 47) = W1 := ⟨_, rfl⟩
    have hb1 : Below W0.heap.size W0 W1 := hW1 ▸ (Below.refl _ W0).alloc (Nat.le_refl _) _
    obtain ⟨ob, hob⟩ : ∃ ob, W0.heap.size = ob := ⟨_, rfl⟩
    have hobs : ob = w.heap.size + 2 := by omega
    have HB1 := Lib.hid (HBW.out.trans (hb1.mono HBW.out.size))
    have HBX1 := Lib.hid (HBX.out.below hb1)
    have HRX1 := Lib.hid (HRX.out.below hb1)
    rw [hW1, hob] at HS0
    have HOB := Lib.hid hob
    clear hobs
    have hobs : ob = w.heap.size + 2 := by omega
    have HOB2 := Lib.hid hobs
    have hobl : w.heap.size + 1 < ob := by omega
    clear hobs
    have hx9 := HBX1.out
    obtain ⟨_, _, _, _⟩ := four_cells hx9
    have hx9l := hx9.lt
    have hz9l : ob < W1.heap.size := HS0.out.box.lt
    have HW1 := Lib.hid hW1
    clear hb1 hob HBX HRX hx9 hs0 hW1
    go_wp2_with fail
    have hW1 := HW1.out
    try rw [hW1]
    clear hW1
    have hob := HOB.out
    try rw [hob]
    clear hob
    go_loopw [6] (fun iv wr => ∃ (i : Nat) (v : Value) (us : List Value), i ≤ m ∧ iv = .int .i64 (i : Int) ∧ Hid (KR 0 w.heap.size ob k n z wr v i ((kids.take i).map (Ty.rep (fun n => vrT (idxV L n)))) us) ∧ Hid (Out (fun q => ob ≤ q) W1 wr)) (fun iv _ => m - (intOf iv).toNat)
    case atStart => exact ⟨0, .slice none 0 0, [], Nat.zero_le _, rfl, by simpa [Hid] using HS0.out, Out.refl _ _⟩
    case round =>
      clear HS0
      obtain ⟨i, v, us, hi, rfl, HS, HO⟩ := hrel
      rename World => wr
      obtain ⟨va, vc, rfl⟩ := own_shape17 HS.out.own
      have hbx := HO.out.box HBX1.out (show ¬ (ob ≤ w.heap.size) by omega)
      have hrx := HO.out.box HRX1.out (show ¬ (ob ≤ w.heap.size + 1) by omega)
      have hsx := HS.out.box
      have HBw : Hid (Below w.heap.size w wr) := HB1.out.trans (HO.out.below HB1.out.size (fun q hq => by show ¬ (ob ≤ q); omega))
      obtain ⟨_, _, _, _⟩ := four_cells hbx
      have hbl2 := hbx.lt
      obtain ⟨_, _, _, _⟩ := four_cells hsx
      have hsl2 := hsx.lt
      by_cases hlt : i < m
      · obtain ⟨x, hx⟩ : ∃ x, kids[i]? = some x := ⟨_, List.getElem?_eq_getElem (by rw [HM.out]; exact hlt)⟩
        have hK9 := HK.out
        rw [← HM.out] at hK9
        obtain ⟨g, off, k', n', s', a', m', c', rfl, hgr, hxv, f1, f2, f3, f4, q0, q1, q2, q3⟩ := kid_cellsB hK9 hx (HBw.out.mono hB)
        clear f1 f2 f3 f4
        have hxm := List.mem_of_getElem? hx
        obtain ⟨z', hz'⟩ : ∃ z', strB s' = z' := ⟨_, rfl⟩
        rw [hz'] at hxv q2
        have HTK : Hid ((kids.take (i + 1)).map (Ty.rep (fun n => vrT (idxV L n))) = (kids.take i).map (Ty.rep (fun n => vrT (idxV L n))) ++ [x.rep (fun n => vrT (idxV L n))]) := by show _ = _; rw [take_snoc' hx]; simp
        have hBr : B ≤ wr.heap.size := Nat.le_trans hB HBw.out.size
        have HC : Hid (Calls Tryd.prog 62 #[.agg #[.int .i64 k', .int .i64 n', .string z', .slice a' m' c'], .slice al nl cl] wr.drew fun e w' => ∃ v, e = .returned v ∧ IsV (ON 0 wr.heap.size) w' (tyC (x.rep (fun n => vrT (idxV L n)))) v ∧ Below wr.heap.size wr.drew w') := by
          exact HX.out x hxm B _ al nl cl wr.drew hBr (hxv.agree (fun b h1 _ => ⟨h1, rfl⟩) (Nat.le_refl _)) ⟨(HL.out.1.below (HBw.out.mono hB) (Nat.le_refl _)).drew, HL.out.2⟩ ⟨d, HD.out.2 x hxm⟩
        have T1 : ∀ W, Sem.run Tryd.prog (Instr.indexAt 45 (.slice (some ⟨g, off, none⟩) m c) (.int .i64 (i : Int))) W = .ok (.pointer (some ⟨g, off + i * 4, none⟩)) W := fun W => by go_simp
        have HLW := Lib.hid (own_lo17 HS.out.own)
        have Q1 : Hid (i + 1 ≤ maxLen) := by unfold maxLen; show _ ≤ _; omega
        have Q2 : Hid ((i + 1) * 56 ≤ 140737488355328) := by show _ ≤ _; omega
        clear hx hxv hz' hK9 hxm hbx hrx hsx
        go_upto_region 7 with fail
        go_region_law (first
          | (refine step_append_lies _ rfl _ _ 45 rfl (ob + 1) 47 i0 (.agg #[.int .i64 0, .int .i64 0, .string ⟨#[]⟩, .slice none 0 0]) 4 56 Tryd.underlying45 hi0 hy0 hy1 hy2 rfl (by decide) (.slice va i vc) i us rfl (HR4.out.alloc _) ⟨w4.heap.size, 0, none⟩ 1 1 [.int .i64 z0, .int .i64 z1, .string (strB z2), .slice z3 z4 z5] rfl rfl (news_at17 (cs := [.int .i64 z0, .int .i64 z1, .string (strB z2), .slice z3 z4 z5]) rfl) (by simp [Value.oneCell']) (by decide) Q1.out Q2.out Q3.out _ rfl ?_; intro g9 cap9 w9 hown9 hgrow hat hlt9; have hz9 := hgrow.size; rw [World.size_alloc] at hz9; have z9 := (HS4.out.box.alloc (.cells #[.int .i64 z0, .int .i64 z1, .string (strB z2), .slice z3 z4 z5] 47)).grown hgrow (fun e => HS4.out.no e.symm); have hbq := (show Box _ _ _ [.int .i64 k, .int .i64 n, .string z, .slice va i vc] from z9); obtain ⟨_, _, _, _⟩ := four_cells hbq; obtain ⟨_, _, _, _⟩ := four_frozen hbq; have hz9l := z9.lt; have HOWN := Lib.hid hown9; have HGR := Lib.hid hgrow; rw [World.size_alloc] at hat; have HAT := Lib.hid hat; clear z9 hbq hown9 hgrow hat)
          | (refine step_plain17 rfl ?_; go_simp; go_at_call 62; (with_reducible refine (HC.out).mono ?_); rintro e w4 ⟨v, rfl, hv, hbz⟩; obtain ⟨z0, z1, z2, z3, z4, z5, hz9⟩ := hv.tys; subst hz9; have hb4 : Below wr.heap.size wr w4 := (Below.refl _ wr).drew.trans hbz; have HS4 := Lib.hid (HS.out.below hb4); have HB4 := Lib.hid hb4; have HV4 := Lib.hid hv.cells; have hbq := HS4.out.box; obtain ⟨_, _, _, _⟩ := four_cells hbq; obtain ⟨_, _, _, _⟩ := four_frozen hbq; have hbql := hbq.lt; have HR4 := Lib.hid HS4.out.own; have Q3 : Hid (ob + 1 ≤ (w4.alloc (.cells #[.int .i64 z0, .int .i64 z1, .string (strB z2), .slice z3 z4 z5] 47)).heap.size) := (by show ob + 1 ≤ _; rw [World.size_alloc]; omega); clear hbq hv hbz hb4))
        all_goals (have HV5 : Hid (InS (SK 0 w.heap.size ob (.slice va i vc)) w4 (tyC (x.rep (fun n => vrT (idxV L n)))) [.int .i64 z0, .int .i64 z1, .string (strB z2), .slice z3 z4 z5]) := Lib.hid (by
          have h := HV4.out.mono (S' := SK 0 w.heap.size ob (.slice va i vc)) (fun b _ hb => by
            rcases hb with hb | hb
            · exact .inl hb
            · refine .inr ⟨by omega, fun e => ?_⟩
              have := (HLW.out b e.symm).2; omega)
          simpa [Value.cells] using h))
        all_goals (have HS9 := Lib.hid (HS4.out.push HV5.out HOWN.out HGR.out HAT.out))
        all_goals (have HO9 : Hid (Out (fun q => ob ≤ q) W1 (w9.setCell ⟨ob, 3, none⟩ (.slice (some ⟨g9, 0, none⟩) (i + 1) cap9))) := Lib.hid (((((HO.out.next HB4.out).alloc _).grown HGR.out (fun q hq => .inl (by have := (HLW.out q hq).1; omega))).setCell (p := ⟨ob, 3, none⟩) (.inl (Nat.le_refl _)) _)))
        all_goals (clear HAT HGR HOWN HV4 HS4 HC HR4 HV5)
        all_goals go_wp2_with fail
        all_goals go_roundw
        all_goals first
          | exact ⟨i + 1, _, _, by omega, by go_num, by rw [HTK.out]; exact HS9, HO9⟩
          | (simp [intOf]; omega)
      · have him : i = m := by omega
        subst him
        obtain ⟨_, _, _, _⟩ := four_cells hrx
        obtain ⟨_, _, _, _⟩ := four_frozen hrx
        have hrl2 := hrx.lt
        clear hbx hrx hsx
        go_wp2_with fail
        refine bodyPost_ret (v := .agg #[.int .i64 k, .int .i64 n, .string z, .slice va i vc]) (by simp only [results, Tryd.results62]; go_simp <;> rfl) rfl ?_
        have hd9 := HS.out.done
        rw [List.take_of_length_le (by rw [HM.out]; exact Nat.le_refl _), ← tysC_eq] at hd9
        refine ⟨_, rfl, ?_, ?_⟩
        · rw [← HZ.out]
          have h2 : IsV (ON 0 (ob + 1)) wr (tyC (.mk k n s (kids.map (Ty.rep (fun n => vrT (idxV L n)))))) (.agg #[.int .i64 k, .int .i64 n, .string (strB s), .slice va i vc]) := IsV.of_ty hd9
          exact (h2.set4 (b := w.heap.size + 1) (by rintro (h | h) <;> omega) _ _ _ _).mono (fun b _ h => by
            rcases h with h | h
            · exact .inl h
            · refine .inr ?_; omega)
        · exact below_set4t HBw.out (by omega)
theorem rren_all (L : List Int) (x : Ty) : RenB L x := Ty.ind (P := RenB L) (fun k n s kids ih => rren_step L k n s kids ih) x

/-- The document's Subst, of a type that may be. -/
theorem r_Subst (x : Ty) (l : List Ty) (S S' : Nat → Prop) (u : Value) (al : Option Addr) (cl : Nat) (w : World) (hv : IsV S w (tyC x) u) (hl : InC S' w (.s l.length 4 (tysC l)) (.slice al l.length cl)) (hok : okT x) :
    Calls Tryd.prog 26 #[u, .slice al l.length cl] w fun e w' => ∃ v, e = .returned v ∧ IsV (fun _ => True) w' (tyC (substL l x)) v ∧ Below w.heap.size w w' := by
  refine (rsub_all l x w.heap.size u al cl w (Nat.le_refl _) (hv.mono fun b h _ => h) (hl.mono fun b h _ => h) hok).mono ?_
  rintro e w' ⟨v, rfl, h1, h2⟩
  exact ⟨v, rfl, h1.mono fun _ _ _ => trivial, h2⟩
set_option maxRecDepth 100000 in
set_option maxHeartbeats 4000000 in
/-- The document's Canon, of a type that may be. -/
theorem r_Canon (x : Ty) (S : Nat → Prop) (u : Value) (w : World) (hv : IsV S w (tyC x) u) (hok : okT x) (hnn : x.nn ≤ 1000000000) :
    Calls Tryd.prog 31 #[u] w fun e w' => ∃ v, e = .returned v ∧ IsV (fun _ => True) w' (tyC (canonL x)) v ∧ Below w.heap.size w w' := by
  have HV : Hid (∀ W', Below w.heap.size w W' → Calls Tryd.prog 28 #[u] W' fun e w' => ∃ a c, e = .returned (.slice a (varsL x).length c) ∧ Row 0 w'.heap.size w' a (varsL x).length (varsL x) ∧ Below W'.heap.size W' w') := fun W' hW' => r_Vars x S u W' (hv.under hW') hnn
  have HR : Hid (∀ (W' : World) (a : Option Addr) (c : Nat), Below w.heap.size w W' → Row 0 W'.heap.size W' a (varsL x).length (varsL x) → Calls Tryd.prog 62 #[u, .slice a (varsL x).length c] W' fun e w' => ∃ v, e = .returned v ∧ IsV (New W') w' (tyC (canonL x)) v ∧ Below W'.heap.size W' w') := fun W' a c hW' hr => by
    have hvl := varsL_len x
    refine (rren_all (varsL x) x W'.heap.size u a _ c W' (Nat.le_refl _) ((hv.under hW').mono fun b h _ => h) ⟨hr, by omega⟩ hok).mono ?_
    rintro e w' ⟨v, rfl, h1, h2⟩
    exact ⟨v, rfl, h1.mono fun b _ h => by
      rcases h with h | h
      · omega
      · exact h, h2⟩
  obtain ⟨V, hV⟩ : ∃ V, varsL x = V := ⟨_, rfl⟩
  obtain ⟨nv, hnv⟩ : ∃ nv, V.length = nv := ⟨_, rfl⟩
  obtain ⟨X, hX9⟩ : ∃ X, canonL x = X := ⟨_, rfl⟩
  rw [hV, hnv] at HV
  rw [hV, hnv, hX9] at HR
  rw [hX9]
  obtain ⟨k, n, s, kids⟩ := x
  obtain ⟨a, c, rfl, hk⟩ := hv.ty
  obtain ⟨z, hz⟩ : ∃ z, strB s = z := ⟨_, rfl⟩
  obtain ⟨m, hm9⟩ : ∃ m, kids.length = m := ⟨_, rfl⟩
  rw [hz, hm9] at HR HV
  rw [hz, hm9]
  clear hv hk hz hm9 hV hnv hX9 hok hnn
  obtain ⟨W0, hW0⟩ : ∃ W0, (w.alloc (.cells #[.int .i64 k, .int .i64 n, .string z, .slice a m c] 47)).alloc (.cells #[.int .i64 0, .int .i64 0, .string ⟨#[]⟩, .slice none 0 0] 47) = W0 := ⟨_, rfl⟩
  have hs0 : W0.heap.size = w.heap.size + 2 := by rw [← hW0]; simp
  have hb0 : Below w.heap.size w W0 := hW0 ▸ ((Below.refl _ w).alloc (Nat.le_refl _) _).alloc (by simp) _
  have hbx : Box W0 w.heap.size 47 [.int .i64 k, .int .i64 n, .string z, .slice a m c] := hW0 ▸ (Box.new w 47 [.int .i64 k, .int .i64 n, .string z, .slice a m c]).alloc _
  have hrx : Box W0 (w.heap.size + 1) 47 tZero := by
    rw [← hW0]
    have := Box.new (w.alloc (.cells #[.int .i64 k, .int .i64 n, .string z, .slice a m c] 47)) 47 tZero
    rwa [World.size_alloc] at this
  have HBW := Lib.hid hb0
  have HBX := Lib.hid hbx
  have HRX := Lib.hid hrx
  obtain ⟨_, _, _, _⟩ := four_cells hbx
  have hbl := hbx.lt
  obtain ⟨_, _, _, _⟩ := four_cells hrx
  obtain ⟨_, _, _, _⟩ := four_frozen hrx
  have hrl := hrx.lt
  clear hb0 hbx hrx
  go_enter Tryd.func31, Tryd.ntmps31
  go_upto_region 1 with fail
  try rw [hW0]
  try clear hW0
  go_region_with (first
    | (go_at_call 28; (with_reducible refine (HV.out _ HBW.out.drew).mono ?_); rintro e w2 ⟨av, cv, rfl, hr, hb2⟩; have HROW := Lib.hid hr; have hb3 : Below W0.heap.size W0 w2 := (Below.refl _ W0).drew.trans hb2; have HB3 := Lib.hid (HBW.out.trans (hb3.mono HBW.out.size)); have hs3 := hb3.size; have hy := HBX.out.below hb3; obtain ⟨_, _, _, _⟩ := four_cells hy; have hyl := hy.lt; have HR3 := Lib.hid (HRX.out.below hb3); clear hr hb2 hb3 hy)
    | (go_at_call 62; (with_reducible refine (HR.out _ _ _ HB3.out HROW.out).mono ?_); rintro e w4 ⟨v, rfl, hv, hb4⟩; have HV4 := Lib.hid hv; obtain ⟨y0, y1, y2, y3, y4, y5, rfl⟩ := hv.tys; have hy := HR3.out.below hb4; obtain ⟨_, _, _, _⟩ := four_cells hy; obtain ⟨_, _, _, _⟩ := four_frozen hy; have hyl := hy.lt; have HB4 := Lib.hid (HB3.out.trans (hb4.mono HB3.out.size)); clear hv hb4 hy))
  all_goals go_wp2_with fail
  all_goals refine bodyPost_ret (v := .agg #[.int .i64 y0, .int .i64 y1, .string (strB y2), .slice y3 y4 y5]) (by simp only [results, Tryd.results31]; go_simp <;> rfl) rfl ?_
  all_goals refine ⟨_, rfl, ?_, ?_⟩
  all_goals first
    | exact below_set4t HB4.out (by omega)
    | exact (HV4.out.set4 (b := w.heap.size + 1) (by show ¬ (w2.heap.size ≤ _); omega) _ _ _ _).mono (fun _ _ _ => trivial)

end Go.Proofs.YtpfcpeljfgmjgaaDoor
