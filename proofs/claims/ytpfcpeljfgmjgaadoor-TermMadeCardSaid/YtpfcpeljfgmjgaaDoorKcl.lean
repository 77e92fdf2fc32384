/- Package term: copied, replaced, Subst. -/
import Derived.Test.YtpfcpeljfgmjgaaDoorKrr
import Derived.Test.YtpfcpeljfgmjgaaDoorKmb
namespace Go.Proofs.YtpfcpeljfgmjgaaDoor
open Go.RowKit
set_option linter.unusedVariables false
set_option linter.unusedSimpArgs false

theorem below_set4t {B b : Nat} {w wz : World} {v0 v1 v2 v3 : Value} (h : Below B w wz) (hb : B ≤ b) : Below B w ((((wz.setCell ⟨b, 0, none⟩ v0).setCell ⟨b, 1, none⟩ v1).setCell ⟨b, 2, none⟩ v2).setCell ⟨b, 3, none⟩ v3) := (((h.setCell (p := ⟨b, 0, none⟩) hb v0).setCell (p := ⟨b, 1, none⟩) hb v1).setCell (p := ⟨b, 2, none⟩) hb v2).setCell (p := ⟨b, 3, none⟩) hb v3
theorem IsV.set4 {S : Nat → Prop} {w : World} {cs : List Cl} {v : Value} (h : IsV S w cs v) {b : Nat} (hb : ¬ S b) (v0 v1 v2 v3 : Value) : IsV S ((((w.setCell ⟨b, 0, none⟩ v0).setCell ⟨b, 1, none⟩ v1).setCell ⟨b, 2, none⟩ v2).setCell ⟨b, 3, none⟩ v3) cs v := by
  obtain ⟨us, rfl, h1⟩ := h
  exact ⟨us, rfl, (((h1.set (p := ⟨b, 0, none⟩) (fun _ => hb) v0).set (p := ⟨b, 1, none⟩) (fun _ => hb) v1).set (p := ⟨b, 2, none⟩) (fun _ => hb) v2).set (p := ⟨b, 3, none⟩) (fun _ => hb) v3⟩
/-- A variable. -/
theorem ty_variable (n : Int) (w : World) :
    Calls Tryd.prog 60 #[.int .i64 n] w fun e w' => ∃ v, e = .returned v ∧ IsV (New w) w' (tyC (vrT n)) v ∧ Below w.heap.size w w' := by
  go_enter Tryd.func60, Tryd.ntmps60
  go_wp2_with fail
  refine bodyPost_ret (v := .agg #[.int .i64 1, .int .i64 n, .string ⟨#[]⟩, .slice none 0 0]) (by simp only [results, Tryd.results60]; go_simp <;> rfl) rfl ?_
  refine ⟨_, rfl, ?_, ?_⟩
  · exact IsV.of_ty (s := []) (.e _ _ _)
  · exact (Below.refl _ w).alloc (Nat.le_refl _) _
theorem r_Var (n : Int) (w : World) :
    Calls Tryd.prog 35 #[.int .i64 n] w fun e w' => e = .returned (.agg #[.int .i64 1, .int .i64 n, .string ⟨#[]⟩, .slice none 0 0]) ∧ Below w.heap.size w w' := by
  go_enter Tryd.func35, Tryd.ntmps35
  go_wp2_with fail
  refine bodyPost_ret (v := .agg #[.int .i64 1, .int .i64 n, .string ⟨#[]⟩, .slice none 0 0]) (by simp only [results, Tryd.results35]; go_simp <;> rfl) rfl ?_
  refine ⟨rfl, ?_⟩
  exact (Below.refl _ w).alloc (Nat.le_refl _) _
theorem vr_isV (S : Nat → Prop) (w : World) (n : Int) : IsV S w (tyC (vrT n)) (.agg #[.int .i64 1, .int .i64 n, .string ⟨#[]⟩, .slice none 0 0]) := IsV.of_ty (s := []) (.e _ _ _)

/-! ### copied -/
def CopB (x : Ty) : Prop := ∀ (S : Nat → Prop) (u : Value) (w : World), IsV S w (tyC x) u → x.sz ≤ 1000 → x.wd ≤ 1000 →
  Calls Tryd.prog 59 #[u] w fun e w' => ∃ v, e = .returned v ∧ IsV (New w) w' (tyC x) v ∧ Below w.heap.size w w'
set_option maxRecDepth 100000 in
set_option maxHeartbeats 4000000 in
theorem cop_step (k n : Int) (s : By) (kids : List Ty) (hX : ∀ x ∈ kids, CopB x) : CopB (.mk k n s kids) := by
  intro S u w hv hs hd
  simp only [Ty.sz] at hs
  simp only [Ty.wd] at hd
  have HR : Hid (∀ W', Below w.heap.size w W' → Calls Tryd.prog 89 #[u, .func (.func 59) #[] #[]] W' fun e w' => ∃ v, e = .returned v ∧ IsV (New W') w' (tyC (.mk k n s (kids.map fun x => x))) v ∧ Below W'.heap.size W' w') := fun W' hW' =>
    remade_c (fun x => x) k n s kids S u W' (hv.under hW') (by omega) (by omega) (fun x hx S' u' W'' hb hx' => by
      have := hX x hx S' u' W'' hx' (by have := Ty.sz_mem hx; omega) (by have := Ty.wd_mem hx; omega)
      simpa using this)
  rw [List.map_id'] at HR
  obtain ⟨a, c, rfl, hk⟩ := hv.ty
  obtain ⟨z, hz⟩ : ∃ z, strB s = z := ⟨_, rfl⟩
  obtain ⟨m, hm⟩ : ∃ m, kids.length = m := ⟨_, rfl⟩
  rw [hz, hm] at HR ⊢
  obtain ⟨X, hX9⟩ : ∃ X, Ty.mk k n s kids = X := ⟨_, rfl⟩
  rw [hX9] at HR ⊢
  clear hv hk hX hs hd hz hm hX9
  obtain ⟨W1, hW1⟩ : ∃ W1, (w.alloc (.cells #[.int .i64 k, .int .i64 n, .string z, .slice a m c] 47)).alloc (.cells #[.int .i64 0, .int .i64 0, .string ⟨#[]⟩, .slice none 0 0] 47) = W1 := ⟨_, rfl⟩
  have hs1 : W1.heap.size = w.heap.size + 2 := by rw [← hW1]; simp
  have HB1 : Hid (Below w.heap.size w W1) := hW1 ▸ ((Below.refl _ w).alloc (Nat.le_refl _) _).alloc (by simp) _
  have HX1 : Hid (Box W1 (w.heap.size + 1) 47 tZero) := by
    show Box _ _ _ _
    rw [← hW1]
    have := Box.new (w.alloc (.cells #[.int .i64 k, .int .i64 n, .string z, .slice a m c] 47)) 47 tZero
    rwa [World.size_alloc] at this
  have hx0 : Box W1 w.heap.size 47 [.int .i64 k, .int .i64 n, .string z, .slice a m c] := hW1 ▸ (Box.new w 47 [.int .i64 k, .int .i64 n, .string z, .slice a m c]).alloc _
  obtain ⟨_, _, _, _⟩ := four_cells hx0
  have hl0 := hx0.lt
  clear hx0
  go_enter Tryd.func59, Tryd.ntmps59
  go_upto_region 1 with fail
  try rw [hW1]
  try clear hW1
  go_wp2_with (go_at_call 89; (with_reducible refine (HR.out _ HB1.out).mono ?_); rintro e w2 ⟨v, rfl, hv, hb2⟩; have HV := Lib.hid hv; obtain ⟨y0, y1, y2, y3, y4, y5, rfl⟩ := hv.tys; have hy1 := HX1.out.below hb2; obtain ⟨_, _, _, _⟩ := four_cells hy1; obtain ⟨_, _, _, _⟩ := four_frozen hy1; have hy1l := hy1.lt; have HB2 := Lib.hid (HB1.out.trans (hb2.mono HB1.out.size)); clear hb2 hv hy1)
  refine bodyPost_ret (v := .agg #[.int .i64 y0, .int .i64 y1, .string (strB y2), .slice y3 y4 y5]) (by simp only [results, Tryd.results59]; go_simp <;> rfl) rfl ?_
  refine ⟨_, rfl, ?_, ?_⟩
  · exact (HV.out.set4 (by show ¬ (W1.heap.size ≤ w.heap.size + 1); omega) _ _ _ _).mono (fun b _ h => by have : W1.heap.size ≤ b := h; show w.heap.size ≤ b; omega)
  · exact below_set4t HB2.out (by omega)
theorem ty_copied (x : Ty) : CopB x := Ty.ind (P := CopB) (fun k n s kids ih => cop_step k n s kids ih) x

/-! ### replaced -/
/-- A function value that tells, of a variable, what comes of it. -/
def DoesN (g : Nat) (lb : Array Value) (w : World) (n : Int) (y : Ty) : Prop := ∀ (w' : World), Below w.heap.size w w' →
  Calls Tryd.prog g (#[.int .i64 n] ++ lb) w' fun e w'' => ∃ v, e = .returned v ∧ IsV (New w') w'' (tyC y) v ∧ Below w'.heap.size w' w''
theorem DoesN.mono {g : Nat} {lb : Array Value} {w w2 : World} {n : Int} {y : Ty} (h : DoesN g lb w n y) (hb : Below w.heap.size w w2) : DoesN g lb w2 n y := fun w' hw' => h w' (hb.trans (hw'.mono hb.size))

def repSB (x : Ty) : Prop := ∀ (f : Int → Ty) (ptr : Value) (S : Nat → Prop) (u : Value) (w : World), IsV S w (tyC x) u → x.sz ≤ 1000 → x.wd ≤ 1000 → (∀ v ∈ x.vs, DoesN 58 #[ptr] w v (f v)) →
  Calls Tryd.prog 57 #[u, .func (.func 58) #[] #[ptr]] w fun e w' => ∃ v, e = .returned v ∧ IsV (New w) w' (tyC (x.rep f)) v ∧ Below w.heap.size w w'
set_option maxRecDepth 100000 in
set_option maxHeartbeats 4000000 in
theorem repS_clo (x : Ty) (hX : repSB x) (f : Int → Ty) (ptr : Value) (b : Nat) (w : World) (hb : b < w.heap.size) (hc : w.cell? ⟨b, 0, none⟩ = some (.func (.func 58) #[] #[ptr])) (hs : x.sz ≤ 1000) (hd : x.wd ≤ 1000) (hn : ∀ v ∈ x.vs, DoesN 58 #[ptr] w v (f v)) :
    DoesK 90 #[.pointer (some ⟨b, 0, none⟩)] w x (x.rep f) := by
  intro S u w' hw' hv
  have HR : Hid (∀ W', Below w'.heap.size w' W' → Calls Tryd.prog 57 #[u, .func (.func 58) #[] #[ptr]] W' fun e w' => ∃ v, e = .returned v ∧ IsV (New W') w' (tyC (x.rep f)) v ∧ Below W'.heap.size W' w') := fun W' hW' => hX f ptr S u W' (hv.under hW') hs hd (fun v hv => (hn v hv).mono (hw'.trans (hW'.mono hw'.size)))
  obtain ⟨k, n, s, a, m, c, rfl⟩ := hv.tys
  obtain ⟨z, hz⟩ : ∃ z, strB s = z := ⟨_, rfl⟩
  obtain ⟨X, hX9⟩ : ∃ X, x.rep f = X := ⟨_, rfl⟩
  rw [hz, hX9] at HR
  rw [hz, hX9]
  have hcb := (hw'.cell (p := ⟨b, 0, none⟩) hb).trans hc
  have hbl : b < w'.heap.size := by have := hw'.size; omega
  clear hv hX hs hd hz hX9 hn hc hw' hb
  obtain ⟨W1, hW1⟩ : ∃ W1, (w'.alloc (.cells #[.int .i64 k, .int .i64 n, .string z, .slice a m c] 47)).alloc (.cells #[.int .i64 0, .int .i64 0, .string ⟨#[]⟩, .slice none 0 0] 47) = W1 := ⟨_, rfl⟩
  have hs1 : W1.heap.size = w'.heap.size + 2 := by rw [← hW1]; simp
  have hB1 : Below w'.heap.size w' W1 := hW1 ▸ ((Below.refl _ w').alloc (Nat.le_refl _) _).alloc (by simp) _
  have hcb1 := (hB1.cell (p := ⟨b, 0, none⟩) hbl).trans hcb
  have HB1 := Lib.hid hB1
  have HX1 : Hid (Box W1 (w'.heap.size + 1) 47 tZero) := by
    show Box _ _ _ _
    rw [← hW1]
    have := Box.new (w'.alloc (.cells #[.int .i64 k, .int .i64 n, .string z, .slice a m c] 47)) 47 tZero
    rwa [World.size_alloc] at this
  have hx0 : Box W1 w'.heap.size 47 [.int .i64 k, .int .i64 n, .string z, .slice a m c] := hW1 ▸ (Box.new w' 47 [.int .i64 k, .int .i64 n, .string z, .slice a m c]).alloc _
  obtain ⟨_, _, _, _⟩ := four_cells hx0
  have hl0 := hx0.lt
  have hbl1 : b < W1.heap.size := by omega
  clear hx0 hB1 hcb
  show Calls Tryd.prog 90 #[.agg #[.int .i64 k, .int .i64 n, .string z, .slice a m c], .pointer (some ⟨b, 0, none⟩)] w' _
  go_enter Tryd.func90, Tryd.ntmps90
  go_upto_region 1 with fail
  try rw [hW1]
  try clear hW1
  go_wp2_with (go_at_call 57; (with_reducible refine (HR.out _ HB1.out).mono ?_); rintro e w2 ⟨v, rfl, hv, hb2⟩; have HV := Lib.hid hv; obtain ⟨y0, y1, y2, y3, y4, y5, rfl⟩ := hv.tys; have hy1 := HX1.out.below hb2; obtain ⟨_, _, _, _⟩ := four_cells hy1; obtain ⟨_, _, _, _⟩ := four_frozen hy1; have hy1l := hy1.lt; have HB2 := Lib.hid (HB1.out.trans (hb2.mono HB1.out.size)); clear hb2 hv hy1)
  refine bodyPost_ret (v := .agg #[.int .i64 y0, .int .i64 y1, .string (strB y2), .slice y3 y4 y5]) (by simp only [results, Tryd.results90]; go_simp <;> rfl) rfl ?_
  refine ⟨_, rfl, ?_, ?_⟩
  · exact (HV.out.set4 (by show ¬ (W1.heap.size ≤ w'.heap.size + 1); omega) _ _ _ _).mono (fun b _ h => by have : W1.heap.size ≤ b := h; show w'.heap.size ≤ b; omega)
  · exact below_set4t HB2.out (by omega)
set_option maxRecDepth 100000 in
set_option maxHeartbeats 4000000 in
theorem repS_step (k n : Int) (s : By) (kids : List Ty) (hX : ∀ x ∈ kids, repSB x) : repSB (.mk k n s kids) := by
  intro f ptr S u w hv hs hd hn
  simp only [Ty.sz] at hs
  simp only [Ty.wd] at hd
  obtain ⟨W1, hW1⟩ : ∃ W1, ((w.alloc (.cells u.cells 47)).alloc (.cells #[.func (.func 58) #[] #[ptr]] 59)).alloc (.cells #[.int .i64 0, .int .i64 0, .string ⟨#[]⟩, .slice none 0 0] 47) = W1 := ⟨_, rfl⟩
  have hs1 : W1.heap.size = w.heap.size + 3 := by rw [← hW1]; simp
  have hB1 : Below w.heap.size w W1 := hW1 ▸ (((Below.refl _ w).alloc (Nat.le_refl _) _).alloc (by simp) _).alloc (by simp; omega) _
  have hx2 : Box W1 (w.heap.size + 1) 59 [.func (.func 58) #[] #[ptr]] := by
    rw [← hW1]
    have := (Box.new (w.alloc (.cells u.cells 47)) 59 [.func (.func 58) #[] #[ptr]]).alloc (.cells #[.int .i64 0, .int .i64 0, .string ⟨#[]⟩, .slice none 0 0] 47)
    rwa [World.size_alloc] at this
  have hx3 : Box W1 (w.heap.size + 2) 47 tZero := by
    rw [← hW1]
    have := Box.new ((w.alloc (.cells u.cells 47)).alloc (.cells #[.func (.func 58) #[] #[ptr]] 59)) 47 tZero
    rw [World.size_alloc, World.size_alloc] at this
    exact this
  have HRM : Hid (Calls Tryd.prog 89 #[u, .func (.func 90) #[] #[.pointer (some ⟨w.heap.size + 1, 0, none⟩)]] W1 fun e w' => ∃ v, e = .returned v ∧ IsV (New W1) w' (tyC (.mk k n s (kids.map (Ty.rep f)))) v ∧ Below W1.heap.size W1 w') :=
    remade_r (Ty.rep f) k n s kids _ S u W1 (hv.under hB1) (by omega) (by omega) (fun x hx =>
      repS_clo x (hX x hx) f ptr (w.heap.size + 1) W1 hx2.lt (hx2.cell 0) (by have := Ty.sz_mem hx; omega) (by have := Ty.wd_mem hx; omega) (fun v hv => (hn v (by simp only [Ty.vs, List.mem_append]; exact .inr (Ty.vss_mem hx hv))).mono hB1))
  obtain ⟨a, c, rfl, hk⟩ := hv.ty
  obtain ⟨z, hz⟩ : ∃ z, strB s = z := ⟨_, rfl⟩
  obtain ⟨m, hm⟩ : ∃ m, kids.length = m := ⟨_, rfl⟩
  have hx0 : Box W1 w.heap.size 47 [.int .i64 k, .int .i64 n, .string z, .slice a m c] := by
    rw [← hW1, ← hz, ← hm]
    exact ((Box.new w 47 [.int .i64 k, .int .i64 n, .string (strB s), .slice a kids.length c]).alloc _).alloc _
  rw [hz, hm] at HRM hW1 ⊢
  have hW2 : ((w.alloc (.cells #[.int .i64 k, .int .i64 n, .string z, .slice a m c] 47)).alloc (.cells #[.func (.func 58) #[] #[ptr]] 59)).alloc (.cells #[.int .i64 0, .int .i64 0, .string ⟨#[]⟩, .slice none 0 0] 47) = W1 := hW1
  have HX3 := Lib.hid hx3
  have HB1 := Lib.hid hB1
  obtain ⟨_, _, _, _⟩ := four_cells hx0
  have hl0 := hx0.lt
  have hf2 := hx2.cell 0
  have hl2 := hx2.lt
  by_cases h1 : k = 1
  · subst h1
    have hvs : n ∈ (Ty.mk 1 n s kids).vs := by simp [Ty.vs]
    have HC : Hid (Calls Tryd.prog 58 #[.int .i64 n, ptr] W1 fun e w' => ∃ v, e = .returned v ∧ IsV (New W1) w' (tyC (f n)) v ∧ Below W1.heap.size W1 w') := by
      have := hn n hvs W1 hB1
      refine Lib.hid ?_
      simpa using this
    have e1 : (Ty.mk 1 n s kids).rep f = f n := by simp [Ty.rep]
    rw [e1]
    obtain ⟨X, hX9⟩ : ∃ X, f n = X := ⟨_, rfl⟩
    rw [hX9] at HC ⊢
    clear hv hk hX hs hd hz hm hX9 e1 hvs hn hB1 hx2 hx3 hx0 HRM hW1
    simp at hf2
    go_enter Tryd.func57, Tryd.ntmps57
    go_upto_region 1 with fail
    try rw [hW2]
    try clear hW2
    go_wp2_with (go_at_call 58; (with_reducible refine (HC.out).mono ?_); rintro e w2 ⟨v, rfl, hv, hb2⟩; have HV := Lib.hid hv; obtain ⟨y0, y1, y2, y3, y4, y5, rfl⟩ := hv.tys; have hy1 := HX3.out.below hb2; obtain ⟨_, _, _, _⟩ := four_cells hy1; obtain ⟨_, _, _, _⟩ := four_frozen hy1; have hy1l := hy1.lt; have HB2 := Lib.hid (HB1.out.trans (hb2.mono HB1.out.size)); clear hb2 hv hy1)
    refine bodyPost_ret (v := .agg #[.int .i64 y0, .int .i64 y1, .string (strB y2), .slice y3 y4 y5]) (by simp only [results, Tryd.results57]; go_simp <;> rfl) rfl ?_
    refine ⟨_, rfl, ?_, ?_⟩
    · exact (HV.out.set4 (by show ¬ (W1.heap.size ≤ w.heap.size + 2); omega) _ _ _ _).mono (fun b _ h => by have : W1.heap.size ≤ b := h; show w.heap.size ≤ b; omega)
    · exact below_set4t HB2.out (by omega)
  · have e0 : (k == 1) = false := by simpa using h1
    have e1 : (Ty.mk k n s kids).rep f = .mk k n s (kids.map (Ty.rep f)) := by simp only [Ty.rep]; rw [if_neg h1, Ty.reps_eq]
    rw [e1]
    obtain ⟨X, hX9⟩ : ∃ X, Ty.mk k n s (kids.map (Ty.rep f)) = X := ⟨_, rfl⟩
    rw [hX9] at HRM ⊢
    clear hv hk hX hs hd hz hm hX9 e1 hn hB1 hx2 hx3 hx0 hW1 h1
    simp at hf2
    go_enter Tryd.func57, Tryd.ntmps57
    go_upto_region 1 with fail
    try rw [hW2]
    try clear hW2
    go_wp2_with (go_at_call 89; (with_reducible refine (HRM.out).mono ?_); rintro e w2 ⟨v, rfl, hv, hb2⟩; have HV := Lib.hid hv; obtain ⟨y0, y1, y2, y3, y4, y5, rfl⟩ := hv.tys; have hy1 := HX3.out.below hb2; obtain ⟨_, _, _, _⟩ := four_cells hy1; obtain ⟨_, _, _, _⟩ := four_frozen hy1; have hy1l := hy1.lt; have HB2 := Lib.hid (HB1.out.trans (hb2.mono HB1.out.size)); clear hb2 hv hy1)
    refine bodyPost_ret (v := .agg #[.int .i64 y0, .int .i64 y1, .string (strB y2), .slice y3 y4 y5]) (by simp only [results, Tryd.results57]; go_simp <;> rfl) rfl ?_
    refine ⟨_, rfl, ?_, ?_⟩
    · exact (HV.out.set4 (by show ¬ (W1.heap.size ≤ w.heap.size + 2); omega) _ _ _ _).mono (fun b _ h => by have : W1.heap.size ≤ b := h; show w.heap.size ≤ b; omega)
    · exact below_set4t HB2.out (by omega)
theorem repS_all (x : Ty) : repSB x := Ty.ind (P := repSB) (fun k n s kids ih => repS_step k n s kids ih) x

def repCB (x : Ty) : Prop := ∀ (f : Int → Ty) (ptr : Value) (S : Nat → Prop) (u : Value) (w : World), IsV S w (tyC x) u → x.sz ≤ 1000 → x.wd ≤ 1000 → (∀ v ∈ x.vs, DoesN 61 #[ptr] w v (f v)) →
  Calls Tryd.prog 57 #[u, .func (.func 61) #[] #[ptr]] w fun e w' => ∃ v, e = .returned v ∧ IsV (New w) w' (tyC (x.rep f)) v ∧ Below w.heap.size w w'
set_option maxRecDepth 100000 in
set_option maxHeartbeats 4000000 in
theorem repC_clo (x : Ty) (hX : repCB x) (f : Int → Ty) (ptr : Value) (b : Nat) (w : World) (hb : b < w.heap.size) (hc : w.cell? ⟨b, 0, none⟩ = some (.func (.func 61) #[] #[ptr])) (hs : x.sz ≤ 1000) (hd : x.wd ≤ 1000) (hn : ∀ v ∈ x.vs, DoesN 61 #[ptr] w v (f v)) :
    DoesK 90 #[.pointer (some ⟨b, 0, none⟩)] w x (x.rep f) := by
  intro S u w' hw' hv
  have HR : Hid (∀ W', Below w'.heap.size w' W' → Calls Tryd.prog 57 #[u, .func (.func 61) #[] #[ptr]] W' fun e w' => ∃ v, e = .returned v ∧ IsV (New W') w' (tyC (x.rep f)) v ∧ Below W'.heap.size W' w') := fun W' hW' => hX f ptr S u W' (hv.under hW') hs hd (fun v hv => (hn v hv).mono (hw'.trans (hW'.mono hw'.size)))
  obtain ⟨k, n, s, a, m, c, rfl⟩ := hv.tys
  obtain ⟨z, hz⟩ : ∃ z, strB s = z := ⟨_, rfl⟩
  obtain ⟨X, hX9⟩ : ∃ X, x.rep f = X := ⟨_, rfl⟩
  rw [hz, hX9] at HR
  rw [hz, hX9]
  have hcb := (hw'.cell (p := ⟨b, 0, none⟩) hb).trans hc
  have hbl : b < w'.heap.size := by have := hw'.size; omega
  clear hv hX hs hd hz hX9 hn hc hw' hb
  obtain ⟨W1, hW1⟩ : ∃ W1, (w'.alloc (.cells #[.int .i64 k, .int .i64 n, .string z, .slice a m c] 47)).alloc (.cells #[.int .i64 0, .int .i64 0, .string ⟨#[]⟩, .slice none 0 0] 47) = W1 := ⟨_, rfl⟩
  have hs1 : W1.heap.size = w'.heap.size + 2 := by rw [← hW1]; simp
  have hB1 : Below w'.heap.size w' W1 := hW1 ▸ ((Below.refl _ w').alloc (Nat.le_refl _) _).alloc (by simp) _
  have hcb1 := (hB1.cell (p := ⟨b, 0, none⟩) hbl).trans hcb
  have HB1 := Lib.hid hB1
  have HX1 : Hid (Box W1 (w'.heap.size + 1) 47 tZero) := by
    show Box _ _ _ _
    rw [← hW1]
    have := Box.new (w'.alloc (.cells #[.int .i64 k, .int .i64 n, .string z, .slice a m c] 47)) 47 tZero
    rwa [World.size_alloc] at this
  have hx0 : Box W1 w'.heap.size 47 [.int .i64 k, .int .i64 n, .string z, .slice a m c] := hW1 ▸ (Box.new w' 47 [.int .i64 k, .int .i64 n, .string z, .slice a m c]).alloc _
  obtain ⟨_, _, _, _⟩ := four_cells hx0
  have hl0 := hx0.lt
  have hbl1 : b < W1.heap.size := by omega
  clear hx0 hB1 hcb
  show Calls Tryd.prog 90 #[.agg #[.int .i64 k, .int .i64 n, .string z, .slice a m c], .pointer (some ⟨b, 0, none⟩)] w' _
  go_enter Tryd.func90, Tryd.ntmps90
  go_upto_region 1 with fail
  try rw [hW1]
  try clear hW1
  go_wp2_with (go_at_call 57; (with_reducible refine (HR.out _ HB1.out).mono ?_); rintro e w2 ⟨v, rfl, hv, hb2⟩; have HV := Lib.hid hv; obtain ⟨y0, y1, y2, y3, y4, y5, rfl⟩ := hv.tys; have hy1 := HX1.out.below hb2; obtain ⟨_, _, _, _⟩ := four_cells hy1; obtain ⟨_, _, _, _⟩ := four_frozen hy1; have hy1l := hy1.lt; have HB2 := Lib.hid (HB1.out.trans (hb2.mono HB1.out.size)); clear hb2 hv hy1)
  refine bodyPost_ret (v := .agg #[.int .i64 y0, .int .i64 y1, .string (strB y2), .slice y3 y4 y5]) (by simp only [results, Tryd.results90]; go_simp <;> rfl) rfl ?_
  refine ⟨_, rfl, ?_, ?_⟩
  · exact (HV.out.set4 (by show ¬ (W1.heap.size ≤ w'.heap.size + 1); omega) _ _ _ _).mono (fun b _ h => by have : W1.heap.size ≤ b := h; show w'.heap.size ≤ b; omega)
  · exact below_set4t HB2.out (by omega)
set_option maxRecDepth 100000 in
set_option maxHeartbeats 4000000 in
theorem repC_step (k n : Int) (s : By) (kids : List Ty) (hX : ∀ x ∈ kids, repCB x) : repCB (.mk k n s kids) := by
  intro f ptr S u w hv hs hd hn
  simp only [Ty.sz] at hs
  simp only [Ty.wd] at hd
  obtain ⟨W1, hW1⟩ : ∃ W1, ((w.alloc (.cells u.cells 47)).alloc (.cells #[.func (.func 61) #[] #[ptr]] 59)).alloc (.cells #[.int .i64 0, .int .i64 0, .string ⟨#[]⟩, .slice none 0 0] 47) = W1 := ⟨_, rfl⟩
  have hs1 : W1.heap.size = w.heap.size + 3 := by rw [← hW1]; simp
  have hB1 : Below w.heap.size w W1 := hW1 ▸ (((Below.refl _ w).alloc (Nat.le_refl _) _).alloc (by simp) _).alloc (by simp; omega) _
  have hx2 : Box W1 (w.heap.size + 1) 59 [.func (.func 61) #[] #[ptr]] := by
    rw [← hW1]
    have := (Box.new (w.alloc (.cells u.cells 47)) 59 [.func (.func 61) #[] #[ptr]]).alloc (.cells #[.int .i64 0, .int .i64 0, .string ⟨#[]⟩, .slice none 0 0] 47)
    rwa [World.size_alloc] at this
  have hx3 : Box W1 (w.heap.size + 2) 47 tZero := by
    rw [← hW1]
    have := Box.new ((w.alloc (.cells u.cells 47)).alloc (.cells #[.func (.func 61) #[] #[ptr]] 59)) 47 tZero
    rw [World.size_alloc, World.size_alloc] at this
    exact this
  have HRM : Hid (Calls Tryd.prog 89 #[u, .func (.func 90) #[] #[.pointer (some ⟨w.heap.size + 1, 0, none⟩)]] W1 fun e w' => ∃ v, e = .returned v ∧ IsV (New W1) w' (tyC (.mk k n s (kids.map (Ty.rep f)))) v ∧ Below W1.heap.size W1 w') :=
    remade_r (Ty.rep f) k n s kids _ S u W1 (hv.under hB1) (by omega) (by omega) (fun x hx =>
      repC_clo x (hX x hx) f ptr (w.heap.size + 1) W1 hx2.lt (hx2.cell 0) (by have := Ty.sz_mem hx; omega) (by have := Ty.wd_mem hx; omega) (fun v hv => (hn v (by simp only [Ty.vs, List.mem_append]; exact .inr (Ty.vss_mem hx hv))).mono hB1))
  obtain ⟨a, c, rfl, hk⟩ := hv.ty
  obtain ⟨z, hz⟩ : ∃ z, strB s = z := ⟨_, rfl⟩
  obtain ⟨m, hm⟩ : ∃ m, kids.length = m := ⟨_, rfl⟩
  have hx0 : Box W1 w.heap.size 47 [.int .i64 k, .int .i64 n, .string z, .slice a m c] := by
    rw [← hW1, ← hz, ← hm]
    exact ((Box.new w 47 [.int .i64 k, .int .i64 n, .string (strB s), .slice a kids.length c]).alloc _).alloc _
  rw [hz, hm] at HRM hW1 ⊢
  have hW2 : ((w.alloc (.cells #[.int .i64 k, .int .i64 n, .string z, .slice a m c] 47)).alloc (.cells #[.func (.func 61) #[] #[ptr]] 59)).alloc (.cells #[.int .i64 0, .int .i64 0, .string ⟨#[]⟩, .slice none 0 0] 47) = W1 := hW1
  have HX3 := Lib.hid hx3
  have HB1 := Lib.hid hB1
  obtain ⟨_, _, _, _⟩ := four_cells hx0
  have hl0 := hx0.lt
  have hf2 := hx2.cell 0
  have hl2 := hx2.lt
  by_cases h1 : k = 1
  · subst h1
    have hvs : n ∈ (Ty.mk 1 n s kids).vs := by simp [Ty.vs]
    have HC : Hid (Calls Tryd.prog 61 #[.int .i64 n, ptr] W1 fun e w' => ∃ v, e = .returned v ∧ IsV (New W1) w' (tyC (f n)) v ∧ Below W1.heap.size W1 w') := by
      have := hn n hvs W1 hB1
      refine Lib.hid ?_
      simpa using this
    have e1 : (Ty.mk 1 n s kids).rep f = f n := by simp [Ty.rep]
    rw [e1]
    obtain ⟨X, hX9⟩ : ∃ X, f n = X := ⟨_, rfl⟩
    rw [hX9] at HC ⊢
    clear hv hk hX hs hd hz hm hX9 e1 hvs hn hB1 hx2 hx3 hx0 HRM hW1
    simp at hf2
    go_enter Tryd.func57, Tryd.ntmps57
    go_upto_region 1 with fail
    try rw [hW2]
    try clear hW2
    go_wp2_with (go_at_call 61; (with_reducible refine (HC.out).mono ?_); rintro e w2 ⟨v, rfl, hv, hb2⟩; have HV := Lib.hid hv; obtain ⟨y0, y1, y2, y3, y4, y5, rfl⟩ := hv.tys; have hy1 := HX3.out.below hb2; obtain ⟨_, _, _, _⟩ := four_cells hy1; obtain ⟨_, _, _, _⟩ := four_frozen hy1; have hy1l := hy1.lt; have HB2 := Lib.hid (HB1.out.trans (hb2.mono HB1.out.size)); clear hb2 hv hy1)
    refine bodyPost_ret (v := .agg #[.int .i64 y0, .int .i64 y1, .string (strB y2), .slice y3 y4 y5]) (by simp only [results, Tryd.results57]; go_simp <;> rfl) rfl ?_
    refine ⟨_, rfl, ?_, ?_⟩
    · exact (HV.out.set4 (by show ¬ (W1.heap.size ≤ w.heap.size + 2); omega) _ _ _ _).mono (fun b _ h => by have : W1.heap.size ≤ b := h; show w.heap.size ≤ b; omega)
    · exact below_set4t HB2.out (by omega)
  · have e0 : (k == 1) = false := by simpa using h1
    have e1 : (Ty.mk k n s kids).rep f = .mk k n s (kids.map (Ty.rep f)) := by simp only [Ty.rep]; rw [if_neg h1, Ty.reps_eq]
    rw [e1]
    obtain ⟨X, hX9⟩ : ∃ X, Ty.mk k n s (kids.map (Ty.rep f)) = X := ⟨_, rfl⟩
    rw [hX9] at HRM ⊢
    clear hv hk hX hs hd hz hm hX9 e1 hn hB1 hx2 hx3 hx0 hW1 h1
    simp at hf2
    go_enter Tryd.func57, Tryd.ntmps57
    go_upto_region 1 with fail
    try rw [hW2]
    try clear hW2
    go_wp2_with (go_at_call 89; (with_reducible refine (HRM.out).mono ?_); rintro e w2 ⟨v, rfl, hv, hb2⟩; have HV := Lib.hid hv; obtain ⟨y0, y1, y2, y3, y4, y5, rfl⟩ := hv.tys; have hy1 := HX3.out.below hb2; obtain ⟨_, _, _, _⟩ := four_cells hy1; obtain ⟨_, _, _, _⟩ := four_frozen hy1; have hy1l := hy1.lt; have HB2 := Lib.hid (HB1.out.trans (hb2.mono HB1.out.size)); clear hb2 hv hy1)
    refine bodyPost_ret (v := .agg #[.int .i64 y0, .int .i64 y1, .string (strB y2), .slice y3 y4 y5]) (by simp only [results, Tryd.results57]; go_simp <;> rfl) rfl ?_
    refine ⟨_, rfl, ?_, ?_⟩
    · exact (HV.out.set4 (by show ¬ (W1.heap.size ≤ w.heap.size + 2); omega) _ _ _ _).mono (fun b _ h => by have : W1.heap.size ≤ b := h; show w.heap.size ≤ b; omega)
    · exact below_set4t HB2.out (by omega)
theorem repC_all (x : Ty) : repCB x := Ty.ind (P := repCB) (fun k n s kids ih => repC_step k n s kids ih) x

end Go.Proofs.YtpfcpeljfgmjgaaDoor
