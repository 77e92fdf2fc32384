/- Package term: Subst. -/
import Derived.Test.YtpfcpeljfgmjgaaDoorKcl
namespace Go.Proofs.YtpfcpeljfgmjgaaDoor
open Go.RowKit
set_option linter.unusedVariables false
set_option linter.unusedSimpArgs false

/-- What may be has short names, few kids. -/
theorem mayL_lim : ∀ (d : Nat) (t : Ty), mayL d t = true → t.sz ≤ 1000 ∧ t.wd ≤ 1000
  | 0, t, h => by simp [mayL] at h
  | d + 1, .mk k n s kids, h => by
    simp only [mayL, Bool.and_eq_true, List.all_eq_true] at h
    obtain ⟨h1, h2⟩ := h
    have hk : Ty.szs kids ≤ 1000 ∧ Ty.wds kids ≤ 1000 := by
      clear h1
      induction kids with
      | nil => simp [Ty.szs, Ty.wds]
      | cons x r ih =>
        have h3 := mayL_lim d x (h2 x (by simp))
        have h4 := ih (fun y hy => h2 y (by simp [hy]))
        simp only [Ty.szs, Ty.wds]; omega
    have hsm : s.length ≤ 1000 ∧ kids.length ≤ 1000 := by
      rw [headMay_eq] at h1
      split at h1
      · simp only [Bool.and_eq_true, decide_eq_true_eq] at h1
        rw [h1.1.2, h1.2]; simp
      · split at h1
        · simp only [Bool.and_eq_true] at h1
          have h5 := h1.2
          unfold haveL at h5
          split at h5
          · rename_i hs
            simp only [decide_eq_true_eq] at h5
            rw [hs]; simp [tArrow]; omega
          · split at h5
            · rename_i hs
              simp only [Bool.and_eq_true, decide_eq_true_eq] at h5
              rw [hs]; simp [tComma]; omega
            · simp only [Bool.and_eq_true, decide_eq_true_eq] at h5
              have h7 := h5.1
              unfold conN rowB at h7
              simp only [Bool.and_eq_true, decide_eq_true_eq] at h7
              omega
        · cases h1
    simp only [Ty.sz, Ty.wd]; omega
theorem mayL_vs : ∀ (d : Nat) (t : Ty), mayL d t = true → ∀ v ∈ t.vs, 0 ≤ v ∧ v ≤ 2147483647
  | 0, t, h => by simp [mayL] at h
  | d + 1, .mk k n s kids, h => by
    simp only [mayL, Bool.and_eq_true, List.all_eq_true] at h
    obtain ⟨h1, h2⟩ := h
    intro v hv
    simp only [Ty.vs, List.mem_append] at hv
    rcases hv with hv | hv
    · split at hv
      · rename_i hk
        simp at hv
        subst hv
        rw [headMay_eq, if_pos hk] at h1
        simp only [Bool.and_eq_true, decide_eq_true_eq] at h1
        exact h1.1.1
      · cases hv
    · rw [Ty.vss_eq, List.mem_flatMap] at hv
      obtain ⟨x, hx, hv⟩ := hv
      exact mayL_vs d x (h2 x hx) v hv
/-- A variable that may be has nothing else. -/
theorem substF_at {l : List Ty} {n : Nat} {x : Ty} (h : l[n]? = some x) : substF l (n : Int) = x := by
  unfold substF; rw [if_pos (by omega)]; simp [h]
theorem substF_not {l : List Ty} {n : Int} (h : (l.length : Int) ≤ n) : substF l n = vrT n := by
  unfold substF
  split
  · rw [List.getElem?_eq_none (by omega)]; rfl
  · rfl

set_option maxRecDepth 100000 in
set_option maxHeartbeats 4000000 in
/-- What Subst's own function tells of a variable. -/
theorem sub_clo (l : List Ty) (S : Nat → Prop) (al : Option Addr) (cl b : Nat) (w : World) (hb : b < w.heap.size) (hc : w.cell? ⟨b, 0, none⟩ = some (.slice al l.length cl)) (hl : InC S w (.s l.length 4 (tysC l)) (.slice al l.length cl)) (hL : ∀ x ∈ l, x.sz ≤ 1000 ∧ x.wd ≤ 1000) (n : Int) (h0 : 0 ≤ n) (h1 : n ≤ 2147483647) :
    DoesN 58 #[.pointer (some ⟨b, 0, none⟩)] w n (substF l n) := by
  intro w' hw'
  have hLm := hl.max_len
  obtain ⟨j, rfl⟩ : ∃ j : Nat, n = (j : Int) := ⟨n.toNat, by omega⟩
  have hcb := (hw'.cell (p := ⟨b, 0, none⟩) hb).trans hc
  have hbl : b < w'.heap.size := by have := hw'.size; omega
  obtain ⟨W1, hW1⟩ : ∃ W1, w'.alloc (.cells #[.int .i64 0, .int .i64 0, .string ⟨#[]⟩, .slice none 0 0] 47) = W1 := ⟨_, rfl⟩
  have hs1 : W1.heap.size = w'.heap.size + 1 := by rw [← hW1]; simp
  have hB1 : Below w'.heap.size w' W1 := hW1 ▸ (Below.refl _ w').alloc (Nat.le_refl _) _
  have hcb1 := (hB1.cell (p := ⟨b, 0, none⟩) hbl).trans hcb
  have hx1 : Box W1 w'.heap.size 47 tZero := hW1 ▸ Box.new w' 47 tZero
  have hbl1 : b < W1.heap.size := by omega
  have HX1 := Lib.hid hx1
  have HB1 := Lib.hid hB1
  have HL := Lib.hid (hl.under hw' |>.under hB1)
  obtain ⟨m, hm⟩ : ∃ m, l.length = m := ⟨_, rfl⟩
  have HM := Lib.hid hm
  by_cases hlt : j < m
  · have e1 : decide ((j : Int) < (m : Int)) = true := decide_eq_true (by omega)
    have e2 : decide (j < m) = true := decide_eq_true hlt
    obtain ⟨x, hx⟩ : ∃ x, l[j]? = some x := ⟨_, List.getElem?_eq_getElem (by omega)⟩
    rw [substF_at hx]
    have hxm := List.mem_of_getElem? hx
    have hK := HL.out
    rw [tysC_eq] at hK
    obtain ⟨g, off, k, n, s, a, m', c, rfl, hgr, hgw, hxv, f1, f2, f3, f4, q0, q1, q2, q3⟩ := kid_cells hK hx (Below.refl _ _)
    clear f1 f2 f3 f4
    obtain ⟨z, hz⟩ : ∃ z, strB s = z := ⟨_, rfl⟩
    rw [hz] at hxv q2
    have HC := Lib.hid (ty_copied x S _ W1 hxv (hL x hxm).1 (hL x hxm).2)
    have T1 : ∀ W, Sem.run Tryd.prog (Instr.indexAt 45 (.slice (some ⟨g, off, none⟩) m cl) (.int .i64 (j : Int))) W = .ok (.pointer (some ⟨g, off + j * 4, none⟩)) W := fun W => by go_simp
    rw [hm] at hcb1
    clear hl hL hx hxm hK hxv hz hc hcb hm hx1 hB1 hb hw'
    show Calls Tryd.prog 58 #[.int .i64 (j : Int), .pointer (some ⟨b, 0, none⟩)] w' _
    go_enter Tryd.func58, Tryd.ntmps58
    go_upto_region 1 with fail
    try rw [hW1]
    try clear hW1
    go_wp2_with (go_at_call 59; (with_reducible refine (HC.out).mono ?_); rintro e w2 ⟨v, rfl, hv, hb2⟩; have HV := Lib.hid hv; obtain ⟨y0, y1, y2, y3, y4, y5, rfl⟩ := hv.tys; have hy1 := HX1.out.below hb2; obtain ⟨_, _, _, _⟩ := four_cells hy1; obtain ⟨_, _, _, _⟩ := four_frozen hy1; have hy1l := hy1.lt; have HB2 := Lib.hid (HB1.out.trans (hb2.mono HB1.out.size)); clear hb2 hv hy1)
    refine bodyPost_ret (v := .agg #[.int .i64 y0, .int .i64 y1, .string (strB y2), .slice y3 y4 y5]) (by simp only [results, Tryd.results58]; go_simp <;> rfl) rfl ?_
    refine ⟨_, rfl, ?_, ?_⟩
    · exact (HV.out.set4 (by show ¬ (W1.heap.size ≤ w'.heap.size); omega) _ _ _ _).mono (fun b _ h => by have : W1.heap.size ≤ b := h; show w'.heap.size ≤ b; omega)
    · exact below_set4t HB2.out (Nat.le_refl _)
  · have e1 : decide ((j : Int) < (m : Int)) = false := decide_eq_false (by omega)
    have e2 : decide (j < m) = false := decide_eq_false hlt
    rw [substF_not (by omega)]
    have HC := Lib.hid (ty_variable (j : Int) W1)
    rw [hm] at hcb1
    obtain ⟨X, hX9⟩ : ∃ X, vrT (j : Int) = X := ⟨_, rfl⟩
    rw [hX9] at HC ⊢
    clear hl hL hc hcb hm hx1 hB1 hb hw' hlt hX9
    show Calls Tryd.prog 58 #[.int .i64 (j : Int), .pointer (some ⟨b, 0, none⟩)] w' _
    go_enter Tryd.func58, Tryd.ntmps58
    go_upto_region 1 with fail
    try rw [hW1]
    try clear hW1
    go_wp2_with (go_at_call 60; (with_reducible refine (HC.out).mono ?_); rintro e w2 ⟨v, rfl, hv, hb2⟩; have HV := Lib.hid hv; obtain ⟨y0, y1, y2, y3, y4, y5, rfl⟩ := hv.tys; have hy1 := HX1.out.below hb2; obtain ⟨_, _, _, _⟩ := four_cells hy1; obtain ⟨_, _, _, _⟩ := four_frozen hy1; have hy1l := hy1.lt; have HB2 := Lib.hid (HB1.out.trans (hb2.mono HB1.out.size)); clear hb2 hv hy1)
    refine bodyPost_ret (v := .agg #[.int .i64 y0, .int .i64 y1, .string (strB y2), .slice y3 y4 y5]) (by simp only [results, Tryd.results58]; go_simp <;> rfl) rfl ?_
    refine ⟨_, rfl, ?_, ?_⟩
    · exact (HV.out.set4 (by show ¬ (W1.heap.size ≤ w'.heap.size); omega) _ _ _ _).mono (fun b _ h => by have : W1.heap.size ≤ b := h; show w'.heap.size ≤ b; omega)
    · exact below_set4t HB2.out (Nat.le_refl _)

set_option maxRecDepth 100000 in
set_option maxHeartbeats 4000000 in
/-- Subst, of a type that may be, by types with short names and few kids. -/
theorem ty_Subst (x : Ty) (l : List Ty) (S S' : Nat → Prop) (u : Value) (al : Option Addr) (cl : Nat) (w : World) (hv : IsV S w (tyC x) u) (hl : InC S' w (.s l.length 4 (tysC l)) (.slice al l.length cl)) (hm : mayL 100 x = true) (hL : ∀ x ∈ l, x.sz ≤ 1000 ∧ x.wd ≤ 1000) :
    Calls Tryd.prog 29 #[u, .slice al l.length cl] w fun e w' => ∃ v, e = .returned v ∧ IsV (New w) w' (tyC (substL l x)) v ∧ Below w.heap.size w w' := by
  obtain ⟨W1, hW1⟩ : ∃ W1, ((w.alloc (.cells u.cells 47)).alloc (.cells #[.slice al l.length cl] 45)).alloc (.cells #[.int .i64 0, .int .i64 0, .string ⟨#[]⟩, .slice none 0 0] 47) = W1 := ⟨_, rfl⟩
  have hs1 : W1.heap.size = w.heap.size + 3 := by rw [← hW1]; simp
  have hB1 : Below w.heap.size w W1 := hW1 ▸ (((Below.refl _ w).alloc (Nat.le_refl _) _).alloc (by simp) _).alloc (by simp; omega) _
  have hx2 : Box W1 (w.heap.size + 1) 45 [.slice al l.length cl] := by
    rw [← hW1]
    have := (Box.new (w.alloc (.cells u.cells 47)) 45 [.slice al l.length cl]).alloc (.cells #[.int .i64 0, .int .i64 0, .string ⟨#[]⟩, .slice none 0 0] 47)
    rwa [World.size_alloc] at this
  have hx3 : Box W1 (w.heap.size + 2) 47 tZero := by
    rw [← hW1]
    have := Box.new ((w.alloc (.cells u.cells 47)).alloc (.cells #[.slice al l.length cl] 45)) 47 tZero
    rw [World.size_alloc, World.size_alloc] at this
    exact this
  have hlim := mayL_lim 100 x hm
  have HMY := Lib.hid (ty_May x S u W1 (hv.under hB1) (by unfold maxLen; omega))
  rw [hm] at HMY
  have HRP : Hid (∀ W', Below W1.heap.size W1 W' → Calls Tryd.prog 57 #[u, .func (.func 58) #[] #[.pointer (some ⟨w.heap.size + 1, 0, none⟩)]] W' fun e w' => ∃ v, e = .returned v ∧ IsV (New W') w' (tyC (substL l x)) v ∧ Below W'.heap.size W' w') := fun W' hW' =>
    repS_all x (substF l) _ S u W' ((hv.under hB1).under hW') hlim.1 hlim.2 (fun v hvs => by
      have hr := mayL_vs 100 x hm v hvs
      have hx2' := hx2.below hW'
      exact sub_clo l S' al cl (w.heap.size + 1) W' hx2'.lt (hx2'.cell 0) ((hl.under hB1).under hW') hL v hr.1 hr.2)
  obtain ⟨k, n, s, kids⟩ := x
  obtain ⟨a, c, rfl, hk⟩ := hv.ty
  obtain ⟨z, hz⟩ : ∃ z, strB s = z := ⟨_, rfl⟩
  obtain ⟨m, hm9⟩ : ∃ m, kids.length = m := ⟨_, rfl⟩
  obtain ⟨ml, hml⟩ : ∃ ml, l.length = ml := ⟨_, rfl⟩
  have hx0 : Box W1 w.heap.size 47 [.int .i64 k, .int .i64 n, .string z, .slice a m c] := by
    rw [← hW1, ← hz, ← hm9]
    exact ((Box.new w 47 [.int .i64 k, .int .i64 n, .string (strB s), .slice a kids.length c]).alloc _).alloc _
  rw [hz, hm9] at HRP HMY
  rw [hz, hm9, hml] at hW1
  rw [hz, hm9, hml]
  have hW2 : ((w.alloc (.cells #[.int .i64 k, .int .i64 n, .string z, .slice a m c] 47)).alloc (.cells #[.slice al ml cl] 45)).alloc (.cells #[.int .i64 0, .int .i64 0, .string ⟨#[]⟩, .slice none 0 0] 47) = W1 := hW1
  obtain ⟨X, hX9⟩ : ∃ X, substL l (.mk k n s kids) = X := ⟨_, rfl⟩
  rw [hX9] at HRP ⊢
  have HX0 := Lib.hid hx0
  have HX3 := Lib.hid hx3
  have HB1 := Lib.hid hB1
  obtain ⟨_, _, _, _⟩ := four_cells hx0
  have hl0 := hx0.lt
  clear hv hk hz hm9 hml hX9 hm hL hl hlim hB1 hx2 hx3 hx0 hW1
  go_enter Tryd.func29, Tryd.ntmps29
  go_upto_region 1 with fail
  try rw [hW2]
  try clear hW2
  go_wp2_with (first
    | (go_at_call 20; (with_reducible refine (HMY.out).mono ?_); rintro e w2 ⟨rfl, hb2⟩; have hy0 := HX0.out.below hb2; obtain ⟨_, _, _, _⟩ := four_cells hy0; have hy0l := hy0.lt; have HB2 := Lib.hid hb2; clear hb2 hy0)
    | (go_at_call 57; (with_reducible refine (HRP.out _ HB2.out).mono ?_); go_loud (rintro e w3 ⟨v, rfl, hv, hb3⟩; have HV := Lib.hid hv; obtain ⟨y0, y1, y2, y3, y4, y5, rfl⟩ := hv.tys; have hy1 := (HX3.out.below HB2.out).below hb3; obtain ⟨_, _, _, _⟩ := four_cells hy1; obtain ⟨_, _, _, _⟩ := four_frozen hy1; have hy1l := hy1.lt; have HB3 := Lib.hid ((HB1.out.trans (HB2.out.mono HB1.out.size)).trans (hb3.mono (by have := HB2.out.size; have := HB1.out.size; omega))); clear hb3 hv hy1)))
  refine bodyPost_ret (v := .agg #[.int .i64 y0, .int .i64 y1, .string (strB y2), .slice y3 y4 y5]) (by simp only [results, Tryd.results29]; go_simp <;> rfl) rfl ?_
  have hs2 := HB2.out.size
  refine ⟨_, rfl, ?_, ?_⟩
  · exact (HV.out.set4 (by show ¬ (w2.heap.size ≤ w.heap.size + 2); omega) _ _ _ _).mono (fun b _ h => by have : w2.heap.size ≤ b := h; show w.heap.size ≤ b; omega)
  · exact below_set4t HB3.out (by omega)

end Go.Proofs.YtpfcpeljfgmjgaaDoor
