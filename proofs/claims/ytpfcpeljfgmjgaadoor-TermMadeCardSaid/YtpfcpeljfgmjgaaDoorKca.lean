/- Package term: Canon. -/
import Derived.Test.YtpfcpeljfgmjgaaDoorKfv
namespace Go.Proofs.YtpfcpeljfgmjgaaDoor
open Go.RowKit Go.Maps
set_option linter.unusedVariables false
set_option linter.unusedSimpArgs false

theorem Tryd.kzeroInt (w : World) : (zeroValue 3).run Tryd.prog w = .ok (.int .i64 0) w := by kernel_rfl
/-- A map of ints that tells G. -/
def CM (w : World) (b n : Nat) (G : Int → Int) : Prop := ∃ D : DataW Unit, w.ownsMap Tryd.prog 3 (plainElem Tryd.prog 3) b n D ∧ IsMap D ∧ ∀ (x : Int) (kl : Lit), fits17 x → keyOf Tryd.prog 3 (.int .i64 x) = some kl → D.atKey kl (.lit (.int .i64 0)) = .lit (.int .i64 (G x))
theorem CM.agree {w w' : World} {b n : Nat} {G : Int → Int} (h : CM w b n G) (hb : w'.heap[b]? = w.heap[b]?) : CM w' b n G := by
  obtain ⟨D, h1, h2⟩ := h; exact ⟨D, ownsMap_agree h1 hb, h2⟩
theorem CM.lt {w : World} {b n : Nat} {G : Int → Int} (h : CM w b n G) : b < w.heap.size := by
  obtain ⟨D, h1, h2⟩ := h; exact ownsMap_lt h1
theorem CM.below {w w' : World} {b n : Nat} {G : Int → Int} (h : CM w b n G) (hb : Below w.heap.size w w') : CM w' b n G := h.agree (hb.block b h.lt)
theorem CM.made (w : World) : CM (w.alloc (.map #[] 0)) w.heap.size 0 (fun _ => 0) := ⟨_, World.ownsMap_made _ _ _ _, isMap_empty, fun x kl _ _ => by simp; rfl⟩
theorem CM.look {w : World} {b n : Nat} {G : Int → Int} (h : CM w b n G) {x : Int} (hx : fits17 x) :
    Sem.run Tryd.prog (Instr.lookup 112 (.map (some b)) (.int .i64 x) false) w = .ok (.int .i64 (G x)) w := by
  obtain ⟨D, hm, _, hi⟩ := h
  obtain ⟨kl, hkl⟩ := int_key hx
  exact look_plain Tryd.kintKeyed Tryd.underlying112 Tryd.underlying3 (Tryd.kzeroInt _) hm hkl (hi x kl hx hkl)
theorem CM.store {w : World} {b n : Nat} {G : Int → Int} (h : CM w b n G) (hn : n ≤ 1000000000000) {x : Int} (hx : fits17 x) {i : Nat} (hi' : i ≤ 1000000000000) :
    ∃ w', Sem.run Tryd.prog (Instr.mapUpdate 112 (.map (some b)) (.int .i64 x) (.int .i64 (i : Int))) w = .ok () w' ∧ CM w' b (n + 1) (fun y => if y = x then (i : Int) else G y) ∧ w.grownBy w' (some b) ∧ w'.heap.size = w.heap.size := by
  obtain ⟨D, hm, hM, hi⟩ := h
  obtain ⟨kl, hkl⟩ := int_key hx
  have hkw : (Lit.int .i64 (i : Int)).wf = true := WalkArith.wf_i64 (by omega)
  obtain ⟨w9, hrun9, hown9, hturn9⟩ := World.ownsMap.store hm Tryd.kintKeyed Tryd.underlying112 (show n < maxLen by unfold maxLen; omega) hkl (plainElem_int Tryd.underlying3 hkw)
  refine ⟨w9, hrun9, ⟨_, hown9, hM.put _ _, fun y kl' hy hk' => ?_⟩, hturn9.grown, ?_⟩
  · by_cases e : y = x
    · subst e
      rw [hkl] at hk'
      obtain rfl := Option.some.inj hk'
      dsimp only
      rw [if_pos rfl, atKey_put_same hM (Tryd.kintKeyed.key hkl)]
    · have hne : kl' ≠ kl := fun q => e (by
        have := Tryd.kintKeyed.inj (q ▸ hk') hkl
        simpa using this)
      dsimp only
      rw [if_neg e, atKey_put_other hne, hi y kl' hy hk']
  · obtain ⟨_, _, _, _, _, rfl⟩ := hturn9
    simp [ChangeMaps.setBlock]

set_option maxRecDepth 100000 in
set_option maxHeartbeats 4000000 in
/-- What Canon's own function tells of a variable. -/
theorem can_clo (G : Int → Int) (b mb nm : Nat) (w : World) (hb : b < w.heap.size) (hc : w.cell? ⟨b, 0, none⟩ = some (.map (some mb))) (hm : CM w mb nm G) (n : Int) (hn : fits17 n) :
    DoesN 61 #[.pointer (some ⟨b, 0, none⟩)] w n (vrT (G n)) := by
  intro w' hw'
  have hcb := (hw'.cell (p := ⟨b, 0, none⟩) hb).trans hc
  have hbl : b < w'.heap.size := by have := hw'.size; omega
  obtain ⟨W1, hW1⟩ : ∃ W1, w'.alloc (.cells #[.int .i64 0, .int .i64 0, .string ⟨#[]⟩, .slice none 0 0] 47) = W1 := ⟨_, rfl⟩
  have hs1 : W1.heap.size = w'.heap.size + 1 := by rw [← hW1]; simp
  have hB1 : Below w'.heap.size w' W1 := hW1 ▸ (Below.refl _ w').alloc (Nat.le_refl _) _
  have hcb1 := (hB1.cell (p := ⟨b, 0, none⟩) hbl).trans hcb
  have hx1 : Box W1 w'.heap.size 47 tZero := hW1 ▸ Box.new w' 47 tZero
  have hbl1 : b < W1.heap.size := by omega
  have HX1 := Lib.hid hx1
  have HB1 := Lib.hid hB1
  have hlook := ((hm.below hw').below hB1).look hn
  obtain ⟨q, hq⟩ : ∃ q, G n = q := ⟨_, rfl⟩
  rw [hq] at hlook ⊢
  have HC := Lib.hid (ty_variable q W1)
  obtain ⟨X, hX9⟩ : ∃ X, vrT q = X := ⟨_, rfl⟩
  rw [hX9] at HC ⊢
  clear hc hcb hm hx1 hB1 hb hw' hX9 hq
  show Calls Tryd.prog 61 #[.int .i64 n, .pointer (some ⟨b, 0, none⟩)] w' _
  go_enter Tryd.func61, Tryd.ntmps61
  go_upto_region 1 with fail
  try rw [hW1]
  try clear hW1
  go_wp2_with (go_at_call 60; (with_reducible refine (HC.out).mono ?_); rintro e w2 ⟨v, rfl, hv, hb2⟩; have HV := Lib.hid hv; obtain ⟨y0, y1, y2, y3, y4, y5, rfl⟩ := hv.tys; have hy1 := HX1.out.below hb2; obtain ⟨_, _, _, _⟩ := four_cells hy1; obtain ⟨_, _, _, _⟩ := four_frozen hy1; have hy1l := hy1.lt; have HB2 := Lib.hid (HB1.out.trans (hb2.mono HB1.out.size)); clear hb2 hv hy1)
  refine bodyPost_ret (v := .agg #[.int .i64 y0, .int .i64 y1, .string (strB y2), .slice y3 y4 y5]) (by simp only [results, Tryd.results61]; go_simp <;> rfl) rfl ?_
  refine ⟨_, rfl, ?_, ?_⟩
  · exact (HV.out.set4 (by show ¬ (W1.heap.size ≤ w'.heap.size); omega) _ _ _ _).mono (fun b _ h => by have : W1.heap.size ≤ b := h; show w'.heap.size ≤ b; omega)
  · exact below_set4t HB2.out (Nat.le_refl _)

set_option maxRecDepth 100000 in
set_option maxHeartbeats 8000000 in
/-- Canon, of a type that may be. -/
theorem ty_Canon (x : Ty) (S : Nat → Prop) (u : Value) (w : World) (hv : IsV S w (tyC x) u) (hm : mayL 100 x = true) (hnn : x.nn ≤ 1000000000) :
    Calls Tryd.prog 30 #[u] w fun e w' => ∃ v, e = .returned v ∧ IsV (New w) w' (tyC (canonL x)) v ∧ Below w.heap.size w w' := by
  have hmm := @run_makeMap Tryd.prog
  have hlim := mayL_lim 100 x hm
  obtain ⟨W1, hW1⟩ : ∃ W1, (w.alloc (.cells u.cells 47)).alloc (.cells #[.int .i64 0, .int .i64 0, .string ⟨#[]⟩, .slice none 0 0] 47) = W1 := ⟨_, rfl⟩
  have hs1 : W1.heap.size = w.heap.size + 2 := by rw [← hW1]; simp
  have hB1 : Below w.heap.size w W1 := hW1 ▸ ((Below.refl _ w).alloc (Nat.le_refl _) _).alloc (by simp) _
  have hx3 : Box W1 (w.heap.size + 1) 47 tZero := by
    rw [← hW1]
    have := Box.new (w.alloc (.cells u.cells 47)) 47 tZero
    rwa [World.size_alloc] at this
  have HMY := Lib.hid (ty_May x S u W1 (hv.under hB1) (by unfold maxLen; omega))
  rw [hm] at HMY
  have HVS : Hid (∀ W', Below w.heap.size w W' → Calls Tryd.prog 27 #[u] W' fun e w' => ∃ a c, e = .returned (.slice a (varsL x).length c) ∧ Row W'.heap.size w'.heap.size w' a (varsL x).length (varsL x) ∧ Below W'.heap.size W' w') := fun W' hW' => ty_Vars x S u W' (hv.under hW') hm (by omega)
  have HVF : Hid (∀ v ∈ varsL x, fits17 v) := fun v hv' => by
    have := mayL_vs 100 x hm v ((mem_varsL x v).1 hv')
    unfold fits17; omega
  have HRP : Hid (∀ (W' : World) (b mb nm : Nat) (G : Int → Int), Below w.heap.size w W' → b < W'.heap.size → W'.cell? ⟨b, 0, none⟩ = some (.map (some mb)) → CM W' mb nm G → (∀ v ∈ varsL x, G v = idxV (varsL x) v) → Calls Tryd.prog 57 #[u, .func (.func 61) #[] #[.pointer (some ⟨b, 0, none⟩)]] W' fun e w' => ∃ v, e = .returned v ∧ IsV (New W') w' (tyC (canonL x)) v ∧ Below W'.heap.size W' w') := fun W' b mb nm G hW' hb hc hcm hG =>
    repC_all x (fun n => vrT (idxV (varsL x) n)) _ S u W' (hv.under hW') hlim.1 hlim.2 (fun v hvs => by
      have h1 := (mem_varsL x v).2 hvs
      rw [← hG v h1]
      exact can_clo G b mb nm W' hb hc hcm v (HVF.out v h1))
  have hvl := varsL_len x
  have HND : Hid ((varsL x).Nodup) := nodup_varsL x
  obtain ⟨V, hV⟩ : ∃ V, varsL x = V := ⟨_, rfl⟩
  obtain ⟨nv, hnv⟩ : ∃ nv, V.length = nv := ⟨_, rfl⟩
  obtain ⟨X, hX9⟩ : ∃ X, canonL x = X := ⟨_, rfl⟩
  rw [hV] at HVF HND hvl
  rw [hV, hnv] at HVS
  rw [hV, hX9] at HRP
  rw [hX9]
  have HNV := Lib.hid hnv
  have hnv9 : nv ≤ 1000000000 := by omega
  obtain ⟨k, n, s, kids⟩ := x
  obtain ⟨a, c, rfl, hk⟩ := hv.ty
  obtain ⟨z, hz⟩ : ∃ z, strB s = z := ⟨_, rfl⟩
  obtain ⟨m, hm9⟩ : ∃ m, kids.length = m := ⟨_, rfl⟩
  have hx0 : Box W1 w.heap.size 47 [.int .i64 k, .int .i64 n, .string z, .slice a m c] := by
    rw [← hW1, ← hz, ← hm9]
    exact (Box.new w 47 [.int .i64 k, .int .i64 n, .string (strB s), .slice a kids.length c]).alloc _
  rw [hz, hm9] at HMY HVS HRP
  rw [hz, hm9] at hW1
  rw [hz, hm9]
  have hW2 : (w.alloc (.cells #[.int .i64 k, .int .i64 n, .string z, .slice a m c] 47)).alloc (.cells #[.int .i64 0, .int .i64 0, .string ⟨#[]⟩, .slice none 0 0] 47) = W1 := hW1
  have HX0 := Lib.hid hx0
  have HX3 := Lib.hid hx3
  have HB1 := Lib.hid hB1
  have HS1 := Lib.hid hs1
  obtain ⟨_, _, _, _⟩ := four_cells hx0
  have hl0 := hx0.lt
  clear hv hk hz hm9 hV hnv hX9 hm hlim hB1 hx3 hx0 hW1 hnn hvl hs1
  go_enter Tryd.func30, Tryd.ntmps30
  go_upto_region 1 with fail
  try rw [hW2]
  try clear hW2
  go_upto_region 4 with (go_at_call 20; (with_reducible refine (HMY.out).mono ?_); rintro e w2 ⟨rfl, hb2⟩; have hy0 := HX0.out.below hb2; obtain ⟨_, _, _, _⟩ := four_cells hy0; have hy0l := hy0.lt; have HB2 := Lib.hid hb2; clear hb2 hy0)
  obtain ⟨W3, hW3⟩ : ∃ W3, (w2.alloc (.map #[] 0)).alloc (.cells #[.map (some w2.heap.size)] 112) = W3 := ⟨_, rfl⟩
  have hb3 : Below w2.heap.size w2 W3 := hW3 ▸ ((Below.refl _ w2).alloc (Nat.le_refl _) _).alloc (by simp) _
  have hbx3 : Box W3 (w2.heap.size + 1) 112 [.map (some w2.heap.size)] := by
    rw [← hW3]
    have := Box.new (w2.alloc (.map #[] 0)) 112 [.map (some w2.heap.size)]
    rwa [World.size_alloc] at this
  have HCM : Hid (CM W3 w2.heap.size 0 (fun _ => 0)) := hW3 ▸ (CM.made w2).agree (Below.heap_alloc _ _ _ (by simp))
  obtain ⟨mb, hmb⟩ : ∃ mb, w2.heap.size = mb := ⟨_, rfl⟩
  have hmbw : w.heap.size + 2 ≤ mb := by have := HS1.out; have := HB2.out.size; omega
  rw [hmb] at hbx3 HCM hW3
  have HB3 := Lib.hid ((HB1.out.trans (HB2.out.mono HB1.out.size)).trans (hb3.mono (by omega)))
  have HX5 := Lib.hid ((HX0.out.below HB2.out).below hb3)
  have HX6 := Lib.hid ((HX3.out.below HB2.out).below hb3)
  have HBM := Lib.hid hbx3
  obtain ⟨_, _, _, _⟩ := four_cells HX5.out
  have hl5 := HX5.out.lt
  have hl3 := hbx3.lt
  have HMB := Lib.hid hmb
  rw [hmb]
  try rw [hW3]
  clear hb3 hbx3 hW3 hmb HX0 HX3 HMY
  go_wp2_with (go_at_call 27; (with_reducible refine (HVS.out _ HB3.out).mono ?_); rintro e w4 ⟨va, vc, rfl, hr, hb4⟩; have HROW := Lib.hid hr; have HB4 := Lib.hid hb4; clear hr hb4)
  have HB5 := Lib.hid (HB3.out.trans (HB4.out.mono HB3.out.size))
  have HX7 := Lib.hid (HX5.out.below HB4.out)
  have HX8 := Lib.hid (HX6.out.below HB4.out)
  have HBM2 := Lib.hid (HBM.out.below HB4.out)
  have HCM2 := Lib.hid (HCM.out.below HB4.out)
  clear HX5 HX6 HBM HCM
  have hl4 := HBM2.out.lt
  go_loopw [14] (fun iv wr => ∃ (i : Nat) (G : Int → Int), i ≤ nv ∧ iv = .int .i64 (i : Int) ∧ Hid (CM wr mb i G) ∧ Hid (∀ v ∈ V.take i, G v = idxV V v) ∧ Hid (Out (fun q => q = mb) w4 wr)) (fun iv _ => nv - (intOf iv).toNat)
  case atStart => exact ⟨0, _, Nat.zero_le _, rfl, HCM2, by simp [Hid], Out.refl _ _⟩
  case round =>
    obtain ⟨i, G, hi, rfl, HC, HG, HO⟩ := hrel
    have hbm := HO.out.box HBM2.out (show ¬ (mb + 1 = mb) by omega)
    have hb0 := HO.out.box HX7.out (show ¬ (w.heap.size = mb) by omega)
    have hbr := HO.out.box HX8.out (show ¬ (w.heap.size + 1 = mb) by omega)
    have HBw : Hid (Below w.heap.size w wr) := HB5.out.trans (HO.out.below HB5.out.size (fun q hq => by show ¬ (q = mb); omega))
    have c0 := hbm.cell 0
    simp at c0
    have hbml := hbm.lt
    by_cases hlt : i < nv
    · have HROWr : Hid (Row W3.heap.size w4.heap.size wr va nv V) := HROW.out.agree fun q h1 h2 => HO.out.block q h2 (by show ¬ (q = mb); omega)
      obtain ⟨hvl, h0 | ⟨bv, ov, rfl, hlo, hhi, hcv⟩⟩ := HROWr.out
      · omega
      · obtain ⟨x, hx⟩ : ∃ x, V[i]? = some x := ⟨_, List.getElem?_eq_getElem (by omega)⟩
        have q0 := hcv i hlt
        rw [show V.getD i 0 = x by simp [List.getD, hx]] at q0
        have hbvr : bv < wr.heap.size := by have := HO.out.size; omega
        obtain ⟨w9, hst, hm9, hg9, hs9⟩ := HC.out.store (by omega) (HVF.out x (List.mem_of_getElem? hx)) (i := i) (by omega)
        have HM9 := Lib.hid hm9
        have HO9 : Hid (Out (fun q => q = mb) w4 w9) := HO.out.grown hg9 (fun q hq => by cases hq; exact .inl rfl)
        have HG9 : Hid (∀ v ∈ V.take (i + 1), (if v = x then (i : Int) else G v) = idxV V v) := fun v hv => by
          rw [take_snoc' hx, List.mem_append] at hv
          by_cases e : v = x
          · rw [if_pos e, e, idxV_at HND.out hx]
          · rw [if_neg e]
            rcases hv with hv | hv
            · exact HG.out v hv
            · simp at hv; exact absurd hv e
        clear hx hcv hvl hm9 hg9 hs9 hbm hb0 hbr
        go_wp2_with fail
        go_roundw
        case rel => exact ⟨i + 1, _, by omega, by go_num, HM9, HG9, HO9⟩
        case measure => simp [intOf]; omega
    · have him : i = nv := by omega
      have HGA : Hid (∀ v ∈ V, G v = idxV V v) := by
        have h := HG.out
        rw [List.take_of_length_le (by rw [HNV.out]; omega)] at h
        exact h
      have HCR := Lib.hid (HRP.out wr (mb + 1) mb i G HBw.out hbm.lt (hbm.cell 0) HC.out HGA.out)
      subst him
      obtain ⟨_, _, _, _⟩ := four_cells hb0
      have hb0l := hb0.lt
      have HBR := Lib.hid hbr
      have hrr := hbr.lt
      clear hbm hb0 hbr
      go_wp2_with (go_at_call 57; (with_reducible refine (HCR.out).mono ?_); rintro e w6 ⟨v, rfl, hv, hb6⟩; have HV := Lib.hid hv; obtain ⟨y0, y1, y2, y3, y4, y5, rfl⟩ := hv.tys; have hy1 := HBR.out.below hb6; obtain ⟨_, _, _, _⟩ := four_cells hy1; obtain ⟨_, _, _, _⟩ := four_frozen hy1; have hy1l := hy1.lt; have HB6 := Lib.hid (HBw.out.trans (hb6.mono HBw.out.size)); clear hb6 hv hy1)
      refine bodyPost_ret (v := .agg #[.int .i64 y0, .int .i64 y1, .string (strB y2), .slice y3 y4 y5]) (by simp only [results, Tryd.results30]; go_simp <;> rfl) rfl ?_
      have hsw := HBw.out.size
      refine ⟨_, rfl, ?_, ?_⟩
      · exact (HV.out.set4 (b := w.heap.size + 1) (by show ¬ (wr.heap.size ≤ w.heap.size + 1); omega) _ _ _ _).mono (fun b _ h => by have : wr.heap.size ≤ b := h; show w.heap.size ≤ b; omega)
      · exact below_set4t HB6.out (by omega)

end Go.Proofs.YtpfcpeljfgmjgaaDoor
