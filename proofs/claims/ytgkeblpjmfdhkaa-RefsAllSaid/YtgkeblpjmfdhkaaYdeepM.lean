/- The document's Deep, deep. -/
import Derived.Test.YtgkeblpjmfdhkaaZHM
namespace Go.Proofs.Ytgkeblpjmfdhkaa
open Go.RowKit Go.Maps
set_option linter.unusedVariables false
set_option linter.unusedSimpArgs false

set_option maxRecDepth 100000 in
set_option maxHeartbeats 4000000 in
theorem y_deep : ∀ (d : Nat) (x : Ty) (S : Nat → Prop) (v : Value) (w : World), x.deep ≤ d → d ≤ 1000000 → IsV S w (tyC x) v →
    Calls Try.prog 108 #[v] w fun e w' => e = .returned (.int .i64 (x.deep : Int)) ∧ Below w.heap.size w w' := by
  intro d
  induction d with
  | zero =>
    intro x S v w h _ _
    cases x; simp [Ty.deep] at h
  | succ d ih =>
    rintro ⟨k, n, s, kids⟩ S v w hd hm hv
    obtain ⟨a, cp, rfl, hk⟩ := hv.ty
    have hdk : Ty.deeps kids ≤ d := by simp only [Ty.deep] at hd; omega
    have hde : (Ty.mk k n s kids).deep = Ty.deeps kids + 1 := by simp only [Ty.deep]; omega
    rw [hde]
    obtain ⟨L, hL⟩ : ∃ L, kids.length = L := ⟨_, rfl⟩
    have HL := Lib.hid hL
    rw [tysC_eq] at hk
    have hLm := hk.max_len
    rw [hL] at hLm
    have HK := Lib.hid hk
    have HDK := Lib.hid hdk
    have HIH := Lib.hid ih
    rw [hL]
    have bx := Lib.hid (Box.new w 120 [.int .i64 k, .int .i64 n, .string (strB s), .slice a L cp])
    have hw1 : w.heap.size < (w.alloc (.cells #[.int .i64 k, .int .i64 n, .string (strB s), .slice a L cp] 120)).heap.size := by simp
    clear hd hv hk hL ih hdk hde
    go_enter Try.func108, Try.ntmps108
    go_wp2_with fail
    obtain ⟨w0, hw0⟩ : ∃ w0, w.alloc (.cells #[.int .i64 k, .int .i64 n, .string (strB s), .slice a L cp] 120) = w0 := ⟨_, rfl⟩
    have HB0 : Hid (Below w.heap.size w w0) := by show Below _ _ _; rw [← hw0]; exact (Below.refl _ _).alloc (Nat.le_refl _) _
    rw [hw0] at bx hw1 ⊢
    clear hw0
    go_loopw [3, 4] (fun mv iv wr => ∃ i : Nat, i ≤ L ∧ iv = .int .i64 (i : Int) ∧ mv = .int .i64 ((Ty.deeps (kids.take i) : Nat) : Int) ∧ Hid (Below w0.heap.size w0 wr)) (fun _ iv _ => L - (intOf iv).toNat)
    case atStart => exact ⟨0, Nat.zero_le _, rfl, rfl, Below.refl _ _⟩
    case round =>
      obtain ⟨i, hi, rfl, rfl, HB⟩ := hrel
      have HBw : Below w.heap.size w wr := HB0.out.trans (HB.out.mono (Nat.le_of_lt hw1))
      have bx2 := bx.out.below HB.out
      obtain ⟨_, _, _, _⟩ := four_cells bx2
      have hwr := bx2.lt
      have HBW := Lib.hid HBw
      clear bx2 HBw
      by_cases hlt : i < L
      · obtain ⟨x, hx⟩ : ∃ x, kids[i]? = some x := ⟨_, List.getElem?_eq_getElem (by rw [HL.out]; exact hlt)⟩
        obtain ⟨b, off, us, rfl, hb, hxv, hc⟩ := HK.out.elem tyC_len hx
        obtain ⟨z0, z1, z2, z3, z4, z5, hz9⟩ := hxv.tys
        obtain rfl := agg_inj hz9
        have hbw : b < wr.heap.size := by have := HBW.out.size; omega
        have hcc : ∀ (j : Nat) (u : Value), ([.int .i64 z0, .int .i64 z1, .string (strB z2), .slice z3 z4 z5] : List Value)[j]? = some u → wr.cell? ⟨b, off + (i * 4 + j), none⟩ = some u := fun j u hu => (HBW.out.cell (p := ⟨b, off + (i * 4 + j), none⟩) hb).trans (hc j u hu)
        have q0 := hcc 0 _ rfl
        have q1 := hcc 1 _ rfl
        have q2 := hcc 2 _ rfl
        have q3 := hcc 3 _ rfl
        rw [← Nat.add_assoc] at q0 q1 q2 q3
        rw [Nat.add_zero] at q0
        have hxm := Ty.deeps_mem (List.mem_of_getElem? hx)
        have HX := Lib.hid (HIH.out x S _ wr (Nat.le_trans hxm HDK.out) (by omega) (hxv.under HBW.out))
        have HTK := Lib.hid (take_snoc' hx)
        have HSN := Lib.hid (Ty.deeps_snoc (kids.take i) x)
        have hm1 : x.deep ≤ 1000000 := by have := HDK.out; omega
        clear hx hxv hc hcc hxm
        obtain ⟨M, hM⟩ : ∃ M, Ty.deeps (kids.take i) = M := ⟨_, rfl⟩
        rw [hM] at HSN ⊢
        clear hM
        obtain ⟨X, hX⟩ : ∃ X, x.deep = X := ⟨_, rfl⟩
        rw [hX] at HSN HX hm1
        clear hX
        go_wp2_with (go_at_call 108; refine HX.out.mono ?_; rintro e w1 ⟨rfl, hb1⟩; have HB1 := Lib.hid hb1; clear hb1)
        go_roundw
        case rel => exact ⟨i + 1, by omega, by go_num, by rw [HTK.out, HSN.out, ← max_if'], HB.out.trans (HB1.out.mono HB.out.size)⟩
        case measure => simp [intOf]; omega
      · have hiL : i = L := by omega
        subst hiL
        have HTA : Hid (kids.take i = kids) := by show _ = _; rw [List.take_of_length_le (by rw [HL.out]; exact Nat.le_refl _)]
        rw [HTA.out]
        have hdd := HDK.out
        obtain ⟨M, hM⟩ : ∃ M, Ty.deeps kids = M := ⟨_, rfl⟩
        rw [hM] at hdd
        have HMM := Lib.hid hM
        rw [hM]
        clear hM
        go_wp2_with fail
        go_ret
        exact ⟨by rw [HMM.out]; go_num, HBW.out⟩

set_option maxRecDepth 100000 in
set_option maxHeartbeats 4000000 in
theorem y_Deep : ∀ (d : Nat) (x : Ex) (S : Nat → Prop) (v : Value) (w : World), x.deep ≤ d → d ≤ 1000000 → IsV S w (exC x) v →
    Calls Try.prog 107 #[v] w fun e w' => e = .returned (.int .i64 (x.deep : Int)) ∧ Below w.heap.size w w' := by
  intro d
  induction d with
  | zero =>
    intro x S v w h _ _
    cases x; simp [Ex.deep] at h
  | succ d ih =>
    rintro ⟨k, p, s, n, kids, alts⟩ S v w hd hm hv
    obtain ⟨a, cp, a', cp', rfl, hk, hk'⟩ := hv.ex
    have hdk : Ex.deeps kids ≤ d := by simp only [Ex.deep] at hd; omega
    have hda : Al.deeps alts ≤ d := by simp only [Ex.deep] at hd; omega
    have hde : (Ex.mk k p s n kids alts).deep = max (Ex.deeps kids) (Al.deeps alts) + 1 := by simp only [Ex.deep]; omega
    rw [hde]
    obtain ⟨L, hL⟩ : ∃ L, kids.length = L := ⟨_, rfl⟩
    obtain ⟨L', hL'⟩ : ∃ L', alts.length = L' := ⟨_, rfl⟩
    have HL := Lib.hid hL
    have HL' := Lib.hid hL'
    rw [exsC_eq] at hk
    rw [alsC_eq] at hk'
    have hLm := hk.max_len
    have hLm' := hk'.max_len
    rw [hL] at hLm
    rw [hL'] at hLm'
    have HK := Lib.hid hk
    have HK' := Lib.hid hk'
    have HDK := Lib.hid hdk
    have HDA := Lib.hid hda
    have HIH := Lib.hid ih
    rw [hL, hL']
    have bx := Lib.hid (Box.new w 43 [.int .i64 k, .int .i64 p, .string (strB s), .int .i64 n, .slice a L cp, .slice a' L' cp'])
    have hw1 : w.heap.size < (w.alloc (.cells #[.int .i64 k, .int .i64 p, .string (strB s), .int .i64 n, .slice a L cp, .slice a' L' cp'] 43)).heap.size := by simp
    clear hd hv hk hk' hL hL' ih hdk hda hde
    go_enter Try.func107, Try.ntmps107
    go_wp2_with fail
    obtain ⟨w0, hw0⟩ : ∃ w0, w.alloc (.cells #[.int .i64 k, .int .i64 p, .string (strB s), .int .i64 n, .slice a L cp, .slice a' L' cp'] 43) = w0 := ⟨_, rfl⟩
    have HB0 : Hid (Below w.heap.size w w0) := by show Below _ _ _; rw [← hw0]; exact (Below.refl _ _).alloc (Nat.le_refl _) _
    rw [hw0] at bx hw1 ⊢
    clear hw0
    go_loopw [3, 4] (fun mv iv wr => ∃ i : Nat, i ≤ L ∧ iv = .int .i64 (i : Int) ∧ mv = .int .i64 ((Ex.deeps (kids.take i) : Nat) : Int) ∧ Hid (Below w0.heap.size w0 wr)) (fun _ iv _ => L - (intOf iv).toNat)
    case atStart => exact ⟨0, Nat.zero_le _, rfl, rfl, Below.refl _ _⟩
    case round =>
      obtain ⟨i, hi, rfl, rfl, HB⟩ := hrel
      have bx2 := bx.out.below HB.out
      obtain ⟨_, _, _, _, _, _⟩ := six_cells bx2
      have hwr := bx2.lt
      clear bx2
      by_cases hlt : i < L
      · obtain ⟨x, hx⟩ : ∃ x, kids[i]? = some x := ⟨_, List.getElem?_eq_getElem (by rw [HL.out]; exact hlt)⟩
        obtain ⟨b, off, us, rfl, hb, hxv, hc⟩ := HK.out.elem exC_len hx
        obtain ⟨z0, z1, z2, z3, z4, z5, z6, z7, z8, z9, hz9, _⟩ := hxv.exs
        obtain rfl := agg_inj hz9
        have hbw0 : b < w0.heap.size := by omega
        have HBw : Below w.heap.size w wr := HB0.out.trans (HB.out.mono (Nat.le_of_lt hw1))
        have hbw : b < wr.heap.size := by have := HB.out.size; omega
        have hcc : ∀ (j : Nat) (u : Value), ([.int .i64 z0, .int .i64 z1, .string (strB z3), .int .i64 z2, .slice z4 z6 z8, .slice z5 z7 z9] : List Value)[j]? = some u → wr.cell? ⟨b, off + (i * 6 + j), none⟩ = some u := fun j u hu => (HBw.cell (p := ⟨b, off + (i * 6 + j), none⟩) hb).trans (hc j u hu)
        have q0 := hcc 0 _ rfl
        have q1 := hcc 1 _ rfl
        have q2 := hcc 2 _ rfl
        have q3 := hcc 3 _ rfl
        have q4 := hcc 4 _ rfl
        have q5 := hcc 5 _ rfl
        rw [← Nat.add_assoc] at q0 q1 q2 q3 q4 q5
        rw [Nat.add_zero] at q0
        have hxm := Ex.deeps_mem (List.mem_of_getElem? hx)
        have HX := Lib.hid (HIH.out x S _ wr (Nat.le_trans hxm HDK.out) (by omega) (hxv.under HBw))
        have HTK := Lib.hid (take_snoc' hx)
        have HSN := Lib.hid (Ex.deeps_snoc (kids.take i) x)
        have hm1 : x.deep ≤ 1000000 := by have := HDK.out; omega
        clear hx hxv hc hcc hxm HBw
        obtain ⟨M, hM⟩ : ∃ M, Ex.deeps (kids.take i) = M := ⟨_, rfl⟩
        rw [hM] at HSN ⊢
        clear hM
        obtain ⟨X, hX⟩ : ∃ X, x.deep = X := ⟨_, rfl⟩
        rw [hX] at HSN HX hm1
        clear hX
        go_wp2_with (go_at_call 107; refine HX.out.mono ?_; rintro e w1 ⟨rfl, hb1⟩; have HB1 := Lib.hid hb1; clear hb1)
        go_roundw
        case rel => exact ⟨i + 1, by omega, by go_num, by rw [HTK.out, HSN.out, ← max_if'], HB.out.trans (HB1.out.mono HB.out.size)⟩
        case measure => simp [intOf]; omega
      · have hiL : i = L := by omega
        subst hiL
        have HTA : Hid (kids.take i = kids) := by show _ = _; rw [List.take_of_length_le (by rw [HL.out]; exact Nat.le_refl _)]
        rw [HTA.out]
        have hdd := HDK.out
        obtain ⟨M, hM⟩ : ∃ M, Ex.deeps kids = M := ⟨_, rfl⟩
        rw [hM] at hdd
        have HMM := Lib.hid hM
        rw [hM]
        clear hM
        obtain ⟨wo, rfl⟩ : ∃ wo, wo = wr := ⟨wr, rfl⟩
        have HBq := HB
        have HBo : Hid (Below w.heap.size w wo) := HB0.out.trans (HB.out.mono (Nat.le_of_lt hw1))
        go_wp2_with fail
        go_loopw [3, 5] (fun mv iv wx => ∃ i : Nat, i ≤ L' ∧ iv = .int .i64 (i : Int) ∧ mv = .int .i64 ((max M (Al.deeps (alts.take i)) : Nat) : Int) ∧ Hid (Below w0.heap.size w0 wx)) (fun _ iv _ => L' - (intOf iv).toNat)
        case atStart => exact ⟨0, Nat.zero_le _, rfl, by simp [Al.deeps], HBq⟩
        case round =>
          obtain ⟨j, hj, rfl, rfl, HBy⟩ := hrel
          have HBx : Hid (Below w.heap.size w wr) := HB0.out.trans (HBy.out.mono (Nat.le_of_lt hw1))
          have bx2 := bx.out.below HBy.out
          obtain ⟨_, _, _, _, _, _⟩ := six_cells bx2
          have hwr2 := bx2.lt
          clear bx2
          by_cases hlt : j < L'
          · obtain ⟨x, hx⟩ : ∃ x, alts[j]? = some x := ⟨_, List.getElem?_eq_getElem (by rw [HL'.out]; exact hlt)⟩
            obtain ⟨b, off, us, rfl, hb, hxv, hc⟩ := HK'.out.elem alC_len hx
            obtain ⟨z0, z1, z2, z3, z4, z5, z6, z7, z8, y0, y1, y2, y3, y4, y5, bd, hz9, hbd, hbv⟩ := hxv.al2
            obtain rfl := agg_inj hz9
            have hbw : b < wr.heap.size := by have := HBx.out.size; omega
            have hcc : ∀ (m : Nat) (u : Value), ([.int .i64 z0, .string (strB z1), .slice z2 z3 z4, .int .i64 z5, .int .i64 z6, .string (strB z8), .int .i64 z7, .slice y0 y2 y4, .slice y1 y3 y5] : List Value)[m]? = some u → wr.cell? ⟨b, off + (j * 9 + m), none⟩ = some u := fun m u hu => (HBx.out.cell (p := ⟨b, off + (j * 9 + m), none⟩) hb).trans (hc m u hu)
            have q0 := hcc 0 _ rfl
            have q1 := hcc 1 _ rfl
            have q2 := hcc 2 _ rfl
            have q3 := hcc 3 _ rfl
            have q4 := hcc 4 _ rfl
            have q5 := hcc 5 _ rfl
            have q6 := hcc 6 _ rfl
            have q7 := hcc 7 _ rfl
            have q8 := hcc 8 _ rfl
            rw [← Nat.add_assoc] at q0 q1 q2 q3 q4 q5 q6 q7 q8
            rw [Nat.add_zero] at q0
            have hxm := Al.deeps_mem (List.mem_of_getElem? hx)
            rw [hbd] at hxm
            have HX := Lib.hid (HIH.out bd S _ wr (Nat.le_trans hxm HDA.out) (by omega) (hbv.under HBx.out))
            have HTK := Lib.hid (take_snoc' hx)
            have HSN : Hid (Al.deeps (alts.take j ++ [x]) = max (Al.deeps (alts.take j)) bd.deep) := by show _ = _; rw [Al.deeps_snoc, hbd]
            have hm1 : bd.deep ≤ 1000000 := by have := HDA.out; omega
            clear hx hxv hc hcc hxm hbv hbd
            obtain ⟨M2, hM2⟩ : ∃ M2, max M (Al.deeps (alts.take j)) = M2 := ⟨_, rfl⟩
            have HM2 := Lib.hid hM2
            rw [hM2]
            clear hM2
            obtain ⟨X, hX⟩ : ∃ X, bd.deep = X := ⟨_, rfl⟩
            rw [hX] at HSN HX hm1
            clear hX
            go_wp2_with (go_at_call 107; refine HX.out.mono ?_; rintro e w1 ⟨rfl, hb1⟩; have HB1 := Lib.hid hb1; clear hb1)
            go_roundw
            case rel => exact ⟨j + 1, by omega, by go_num, by rw [HTK.out, HSN.out, max_if', ← HM2.out, Nat.max_assoc], HBy.out.trans (HB1.out.mono HBy.out.size)⟩
            case measure => simp [intOf]; omega
          · have hjL : j = L' := by omega
            subst hjL
            have HTA2 : Hid (alts.take j = alts) := by show _ = _; rw [List.take_of_length_le (by rw [HL'.out]; exact Nat.le_refl _)]
            rw [HTA2.out]
            have hda2 := HDA.out
            obtain ⟨Q, hQ⟩ : ∃ Q, max M (Al.deeps alts) = Q := ⟨_, rfl⟩
            have hQl : Q ≤ 1000000 := by omega
            have HQ := Lib.hid hQ
            rw [hQ]
            clear hQ
            go_wp2_with fail
            go_ret
            exact ⟨by rw [HMM.out, HQ.out]; go_num, HBx.out⟩

end Go.Proofs.Ytgkeblpjmfdhkaa
