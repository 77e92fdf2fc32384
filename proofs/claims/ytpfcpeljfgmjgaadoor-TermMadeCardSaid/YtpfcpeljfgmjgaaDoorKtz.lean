/- Package term's writer: names with kids; typ; Text. -/
import Derived.Test.YtpfcpeljfgmjgaaDoorKty
namespace Go.Proofs.YtpfcpeljfgmjgaaDoor
open Go.RowKit Go.Maps
set_option linter.unusedVariables false
set_option linter.unusedSimpArgs false

/-- What is held in brackets, of what may be. -/
theorem okT_held {x : Ty} (h : okT x) : isHeld x = (decide (x.kids ≠ []) && decide (x.nm ≠ tComma)) := by
  obtain ⟨d, h⟩ := h
  obtain ⟨k, n, s, kids⟩ := x
  cases d with
  | zero => simp [mayL] at h
  | succ d =>
    simp only [mayL, Bool.and_eq_true] at h
    have h1 := h.1
    unfold isHeld
    show (decide (s = tArrow) || (decide (kids ≠ []) && decide (s ≠ tComma))) = (decide (kids ≠ []) && decide (s ≠ tComma))
    by_cases hs : s = tArrow
    · have hk : kids.length = 2 := by
        rw [headMay_eq] at h1
        split at h1
        · simp only [Bool.and_eq_true, decide_eq_true_eq] at h1
          rw [h1.1.2] at hs; cases hs
        · split at h1
          · simp only [Bool.and_eq_true] at h1
            have h5 := h1.2
            unfold haveL at h5
            rw [if_pos hs] at h5
            simpa using h5
          · cases h1
      have h2 : kids ≠ [] := by intro e; subst e; cases hk
      have h3 : s ≠ tComma := by rw [hs]; decide
      rw [decide_eq_true hs, decide_eq_true h2, decide_eq_true h3]; rfl
    · rw [decide_eq_false hs, Bool.false_or]
def preN (s : By) (kids : List Ty) : By := s ++ (kids.zip (kids.map textL)).flatMap (fun p => 32 :: held (isHeld p.1) p.2)
theorem preN_snoc (s : By) (kids : List Ty) (x : Ty) : preN s (kids ++ [x]) = preN s kids ++ [32] ++ held (isHeld x) (textL x) := by
  unfold preN
  rw [List.map_append, List.zip_append (by simp), List.flatMap_append]; simp
theorem preN_len (s : By) (kids : List Ty) (h : ∀ x ∈ kids, okT x) : (preN s kids).length ≤ s.length + 120 * Ty.nns kids + 3 * kids.length := by
  unfold preN
  have h1 := zip_len kids (kids.map textL)
  have h2 := sumL_le kids h
  rw [List.length_append]
  rw [List.length_map] at h1
  omega
set_option maxRecDepth 100000 in
set_option maxHeartbeats 8000000 in
theorem wr_named (s : By) (z : ByteArray) (hz : z.data.toList = s) (kids : List Ty) (hX : ∀ x ∈ kids, TypB x) (w : World) (B b : Nat) (l : By) (a : Option Addr) (m c : Nat) (h : WS w B b l) (hk : InC (fun q => q < B) w (.s kids.length 4 (kids.flatMap tyC)) (.slice a m c)) (hm : kids.length = m) (hm2 : m ≤ 1000) (hs : s.length ≤ 30) (hok : ∀ x ∈ kids, okT x) (hit : ∀ x ∈ kids, ITs B w x) (hlen : l.length + 130 * (1 + Ty.nns kids) ≤ 10000000000000) (hB : B ≤ w.heap.size) :
    Calls Tryd.prog 94 #[.pointer (some ⟨b, 0, none⟩), .string z, .slice a m c] w fun e w' => e = .returned (.tuple #[]) ∧ Wrote B b (l ++ preN s kids) w w' := by
  have HK := Lib.hid hk
  have HM := Lib.hid hm
  have HX := Lib.hid hX
  have HOK := Lib.hid hok
  have HIT := Lib.hid hit
  have HWS := Lib.hid (wsc B b)
  have HLN := Lib.hid hlen
  have HZ := Lib.hid hz
  have HS0 := Lib.hid h
  have hbl := h.lt
  clear hk hm hX hok hit h hz
  go_enter Tryd.func94, Tryd.ntmps94
  go_upto_region 1 with (go_at_call 113; (with_reducible refine (HWS.out w l s z HZ.out HS0.out (by omega) hB).mono ?_); rintro e w1 ⟨⟨mm, rfl⟩, hw1⟩; have HS1 : Hid (WS w1 B b (l ++ preN s (kids.take 0))) := (by show WS _ _ _ _; have := hw1.1; simpa [preN] using this); have HF1 := Lib.hid hw1.2; have hbl1 := hw1.1.lt; have hs1 := hw1.2.size; clear hw1)
  clear HS0
  go_wp2_with fail
  go_loopw [15] (fun iv wr => ∃ i : Nat, i ≤ m ∧ iv = .int .i64 (i : Int) ∧ Hid (WS wr B b (l ++ preN s (kids.take i))) ∧ Hid (Fr B (fun q => q = b) 5 w wr)) (fun iv _ => m - (intOf iv).toNat)
  case atStart => exact ⟨0, Nat.zero_le _, rfl, HS1, HF1⟩
  case round =>
    obtain ⟨i, hi, rfl, HS, HF⟩ := hrel
    clear HS1
    have hBr : B ≤ wr.heap.size := Nat.le_trans hB HF.out.size
    have hblr := HS.out.lt
    have hpl := preN_len s (kids.take i) (fun x hx => HOK.out x (List.mem_of_mem_take hx))
    have hnt := Ty.nns_len (kids.take i)
    have hln := HLN.out
    obtain ⟨P, hP⟩ : ∃ P, preN s (kids.take i) = P := ⟨_, rfl⟩
    rw [hP] at HS hpl
    by_cases hlt : i < m
    · obtain ⟨x, hx⟩ : ∃ x, kids[i]? = some x := ⟨_, List.getElem?_eq_getElem (by rw [HM.out]; exact hlt)⟩
      obtain ⟨g, off, k', n', s', a', m', c', rfl, hgr, hxv, f1, f2, f3, f4, q0, q1, q2, q3⟩ := kid_cellsB HK.out hx HF.out.bel
      have hxm := List.mem_of_getElem? hx
      have hheld := okT_held (HOK.out x hxm)
      rw [f1] at hheld
      obtain ⟨z', hz'⟩ : ∃ z', strB s' = z' := ⟨_, rfl⟩
      rw [hz'] at hxv q2
      have et : (z'.toList == [44]) = decide (s' = tComma) := by rw [toList_dec, ← hz', strB_list]; rfl
      have ekid : decide ((0 : Int) < (m' : Int)) = decide (x.kids ≠ []) := by
        rw [f4, Bool.eq_iff_iff]; simp only [decide_eq_true_eq]
        constructor
        · intro h e; rw [e] at h; simp at h
        · intro h
          have := List.length_pos_iff.2 h; omega
      have ekidN : decide (0 < m') = decide (x.kids ≠ []) := by
        rw [← ekid, Bool.eq_iff_iff]; simp only [decide_eq_true_eq]; omega
      clear f1 f2 f3 f4
      obtain ⟨t1, ht1⟩ : ∃ t1, decide (x.kids ≠ []) = t1 := ⟨_, rfl⟩
      obtain ⟨t2, ht2⟩ : ∃ t2, decide (s' = tComma) = t2 := ⟨_, rfl⟩
      have ht3 : decide (s' ≠ tComma) = !t2 := by rw [← ht2]; simp
      rw [ht1] at ekid ekidN
      rw [ht2] at et
      rw [ht1, ht3] at hheld
      have en : (!(z'.toList == [44])) = !t2 := by rw [et]
      have hns := nns_snoc17 hx
      have hnk := Ty.nns_take kids (i + 1)
      have hnk0 := Ty.nns_take kids i
      have hbnd : l.length + P.length + 4 + 130 * x.nn ≤ 10000000000000 := by omega
      have HP2 : Hid (preN s (kids.take (i + 1)) = P ++ [32] ++ held (t1 && !t2) (textL x)) := by
        show _ = _
        rw [take_snoc' hx, preN_snoc, hP, hheld]
      obtain ⟨W5, hW5⟩ : ∃ W5, wr.alloc (.cells #[.int .i64 k', .int .i64 n', .string z', .slice a' m' c'] 47) = W5 := ⟨_, rfl⟩
      have hb5 : Below wr.heap.size wr W5 := hW5 ▸ (Below.refl _ wr).alloc (Nat.le_refl _) _
      have hk5 : Box W5 wr.heap.size 47 [.int .i64 k', .int .i64 n', .string z', .slice a' m' c'] := hW5 ▸ Box.new wr 47 [.int .i64 k', .int .i64 n', .string z', .slice a' m' c']
      have HS5 := Lib.hid (HS.out.agree hb5)
      have HF5 : Hid (Fr B (fun q => q = b) 5 w W5) := HF.out.next hb5 hB
      have hkne : wr.heap.size ≠ b := by omega
      have HK5 := Lib.hid hk5
      have hB5 : B ≤ W5.heap.size := Nat.le_trans hBr hb5.size
      have hbl5 := (HS.out.agree hb5).lt
      have hkl5 := hk5.lt
      have HTY : Hid (∀ (w' : World) (l' : By) (t : Bool), Below B wr w' → WS w' B b l' → l'.length ≤ l.length + P.length + 1 → B ≤ w'.heap.size → Calls Tryd.prog 115 #[.pointer (some ⟨b, 0, none⟩), .agg #[.int .i64 k', .int .i64 n', .string z', .slice a' m' c'], .bool t] w' fun e w'' => e = .returned (.tuple #[]) ∧ Wrote B b (l' ++ held t (textL x)) w' w'') := fun w' l' t hb hw hl hB' =>
        wr_held x (HX.out x hxm) t w' B b l' _ hw (hxv.belowB hb) (HOK.out x hxm) (fun v hv h26 => (HIT.out x hxm v hv h26).mono (HF.out.bel.trans hb)) (by omega) hB'
      have HB5 : Hid (Below B wr W5) := hb5.mono hBr
      have T1 : ∀ W, Sem.run Tryd.prog (Instr.indexAt 45 (.slice (some ⟨g, off, none⟩) m c) (.int .i64 (i : Int))) W = .ok (.pointer (some ⟨g, off + i * 4, none⟩)) W := fun W => by go_simp
      clear hx hxv hz' hxm hb5 hk5 hP hpl hnt hln hns hnk hnk0 hheld ht1 ht2 ht3 HS
      cases t1 <;> cases t2
      all_goals (
        go_upto_region 4 with fail
        try rw [hW5]
        try clear hW5
        go_upto_region 5 with (go_at_call 113; (with_reducible refine (HWS.out W5 (l ++ P) [32] ⟨#[32]⟩ rfl HS5.out (by rw [List.length_append]; simp; omega) hB5).mono ?_); rintro e w6 ⟨⟨mm, rfl⟩, hw6⟩; have HS6 := Lib.hid hw6.1; have HF6 := Lib.hid (HF5.out.trans hw6.2); have HB6 := Lib.hid (HB5.out.trans hw6.2.bel); have hs6 := hw6.2.size; have hbl6 := hw6.1.lt; have hk6 := hw6.2.box HK5.out hkne Tryd.tu; obtain ⟨_, _, _, _⟩ := four_cells hk6; have hkl6 := hk6.lt; clear hw6 hk6)
        go_wp2_with (go_at_call 115; go_loud ((with_reducible refine (HTY.out w6 (l ++ P ++ [32]) _ HB6.out HS6.out (by rw [List.length_append, List.length_append]; simp) (by omega)).mono ?_); rintro e w7 ⟨rfl, hw7⟩; have HS7 : Hid (WS w7 B b (l ++ preN s (kids.take (i + 1)))) := (by show WS _ _ _ _; rw [HP2.out]; have := hw7.1; simpa using this); have HF7 := Lib.hid (HF6.out.trans hw7.2); clear hw7))
        go_roundw
        case rel => exact ⟨i + 1, by omega, by go_num, HS7, HF7⟩
        case measure => (simp [intOf]; omega))
    · have him : i = m := by omega
      have hP0 : P = preN s kids := by rw [← hP, List.take_of_length_le (by rw [HM.out]; omega)]
      have HP0 := Lib.hid hP0
      subst him
      clear hP hP0 hpl hnt hln
      go_wp2_with fail
      go_end0
      exact ⟨rfl, by rw [← HP0.out]; exact ⟨HS.out, HF.out⟩⟩

end Go.Proofs.YtpfcpeljfgmjgaaDoor
