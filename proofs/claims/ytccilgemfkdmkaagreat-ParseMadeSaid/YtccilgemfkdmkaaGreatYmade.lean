/- The law ParseMade: programs by numbers, with a token more, or fewer, are read as the document says. -/
import Derived.Test.YtccilgemfkdmkaaGreatYall
import Derived.Test.YtccilgemfkdmkaaGreatZJ
import Derived.Test.YtccilgemfkdmkaaGreatZM
import Derived.Deep.RegionHeld3
import Derived.Deep.RegionWith
namespace Go.Proofs.YtccilgemfkdmkaaGreat
open Go.RowKit Go.Maps
set_option linter.unusedVariables false
set_option linter.unusedSimpArgs false

theorem rowY_below {w w' : World} {a : Option Addr} {n : Nat} {bs : List Nat} (h : RowF (fun n : Nat => Value.int .u8 (n : Int)) (0 : Nat) 0 w.heap.size w a n bs) (hb : Below w.heap.size w w') : RowF (fun n : Nat => Value.int .u8 (n : Int)) (0 : Nat) 0 w'.heap.size w' a n bs := by
  obtain ⟨h1, h2 | ⟨b, off, rfl, h3, h4, h5⟩⟩ := h
  · exact ⟨h1, .inl h2⟩
  · exact ⟨h1, .inr ⟨b, off, rfl, h3, by have := hb.size; omega, fun i hi => (hb.cell (p := ⟨b, off + i, none⟩) h4).trans (h5 i hi)⟩⟩
theorem strB_ext (S : By) (i j : Nat) : (strB S).extract i j = strB ((S.drop i).take (j - i)) := by
  apply ByteArray.ext
  apply Array.ext'
  have h := ext_data (strB S) i j
  rw [strB_data] at h
  rw [h]; simp [strB]

set_option maxRecDepth 100000 in
set_option maxHeartbeats 16000000 in
theorem made_plaw (a : Option Addr) (l c cut : Nat) (a2 : Option Addr) (n2 c2 : Nat) (bs : List Nat) (w : World) (hg : GB w a l c) (hcut : cut ≤ 65535) (hr : RowF (fun n : Nat => Value.int .u8 (n : Int)) (0 : Nat) 0 w.heap.size w a2 n2 bs) (hb : ∀ i, i < n2 → bs.getD i 0 ≤ 255) (hn : n2 ≤ 9223372036854775807)
    (HS : Calls Tryz.prog 10 #[.slice a l c] w fun e w' => ∃ S : By, e = .returned (.string (strB S)) ∧ NLs S ∧ S.length ≤ 40000000 ∧ Below w.heap.size w w') :
    Calls Tryz.prog 4 #[.slice a l c, .int .u16 (cut : Int), .slice a2 n2 c2] w fun e w' => e = .returned (.bool true) ∧ Below w.heap.size w w' := by
  have HS := Lib.hid HS
  have HRW := Lib.hid hr
  have HBY := Lib.hid hb
  clear hr hb hg
  go_enter Tryz.func4, Tryz.ntmps4
  go_wp2_with fail
  go_at_call 10
  refine HS.out.mono ?_
  rintro e w1 ⟨S, rfl, hN, hSl, hb1⟩
  have HB1 := Lib.hid hb1
  clear hb1 HS hN
  obtain ⟨Z, hZ⟩ : ∃ Z, strB S = Z := ⟨_, rfl⟩
  have hZs : Z.size = S.length := by rw [← hZ, strB_size]
  rw [hZ]
  have HW : Hid (∀ w', Below w1.heap.size w1 w' → Calls Tryz.prog 11 #[.slice a2 n2 c2] w' fun e w'' => e = .returned (.string (strB (textL bs))) ∧ Below w'.heap.size w' w'') := fun w' h => words_any a2 n2 c2 bs w' (rowY_below HRW.out (HB1.out.trans (h.mono HB1.out.size))) HBY.out hn
  clear HRW HBY
  by_cases hbig : 4000 < S.length ∨ 3 < n2
  · have hor : (decide ((4000 : Int) < (S.length : Int)) || decide ((3 : Int) < (n2 : Int))) = true := by
      rcases hbig with h | h
      · rw [decide_eq_true (by omega : (4000 : Int) < (S.length : Int))]; rfl
      · rw [decide_eq_true (by omega : (3 : Int) < (n2 : Int)), Bool.or_true]
    by_cases h1 : 4000 < S.length
    · have e1 : decide ((4000 : Int) < (S.length : Int)) = true := decide_eq_true (by omega)
      have e2 : (4000 : Int) < (S.length : Int) := by omega
      clear hor hbig HW hZ
      go_wp2_with (go_at_call 5; refine (z_awake _).mono ?_; rintro e wz ⟨rfl, hbz⟩; have HBZ := Lib.hid hbz; clear hbz)
      go_ret
      exact ⟨rfl, HB1.out.trans (HBZ.out.mono HB1.out.size)⟩
    · have h3 : 3 < n2 := by omega
      have e1 : decide ((4000 : Int) < (S.length : Int)) = false := decide_eq_false (by omega)
      have e2 : ¬ (4000 : Int) < (S.length : Int) := by omega
      have e3 : decide ((3 : Int) < (n2 : Int)) = true := decide_eq_true (by omega)
      have e4 : (3 : Int) < (n2 : Int) := by omega
      clear hor hbig HW hZ
      go_wp2_with (go_at_call 5; refine (z_awake _).mono ?_; rintro e wz ⟨rfl, hbz⟩; have HBZ := Lib.hid hbz; clear hbz)
      go_ret
      exact ⟨rfl, HB1.out.trans (HBZ.out.mono HB1.out.size)⟩
  · have hS4 : S.length ≤ 4000 := by omega
    have hn3 : n2 ≤ 3 := by omega
    have e1 : decide ((4000 : Int) < (S.length : Int)) = false := decide_eq_false (by omega)
    have e2 : ¬ (4000 : Int) < (S.length : Int) := by omega
    have e3 : decide ((3 : Int) < (n2 : Int)) = false := decide_eq_false (by omega)
    have e4 : ¬ (3 : Int) < (n2 : Int) := by omega
    obtain ⟨k, hk⟩ : ∃ k, cut % (S.length + 1) = k := ⟨_, rfl⟩
    have hkl : k ≤ S.length := by have := Nat.mod_lt cut (show 0 < S.length + 1 by omega); omega
    have ek1 : (cut : Int) % ((S.length : Int) + 1) = (k : Int) := by rw [← hk]; simp
    have ek2 : (cut : Int).tmod ((S.length : Int) + 1) = (k : Int) := by rw [Int.tmod_eq_emod_of_nonneg (by omega)]; exact ek1
    obtain ⟨WD, hWD⟩ : ∃ WD, textL bs = WD := ⟨_, rfl⟩
    have hWl : WD.length ≤ 2000 := by rw [← hWD]; exact textL_len _
    rw [hWD] at HW
    obtain ⟨T, hT⟩ : ∃ T, S.take k ++ [32] ++ WD ++ [32] ++ S.drop k = T := ⟨_, rfl⟩
    have hTl : T.length ≤ 8000 := by rw [← hT]; simp; omega
    obtain ⟨H, hH⟩ : ∃ H, strB (S.take k) = H := ⟨_, rfl⟩
    obtain ⟨X1, hX1⟩ : ∃ X1, strB (S.take k ++ [32]) = X1 := ⟨_, rfl⟩
    obtain ⟨XW, hXW⟩ : ∃ XW, strB WD = XW := ⟨_, rfl⟩
    obtain ⟨X2, hX2⟩ : ∃ X2, strB (S.take k ++ [32] ++ WD) = X2 := ⟨_, rfl⟩
    obtain ⟨X3, hX3⟩ : ∃ X3, strB (S.take k ++ [32] ++ WD ++ [32]) = X3 := ⟨_, rfl⟩
    obtain ⟨XD, hXD⟩ : ∃ XD, strB (S.drop k) = XD := ⟨_, rfl⟩
    obtain ⟨XT, hXT⟩ : ∃ XT, strB T = XT := ⟨_, rfl⟩
    have hhead : ∀ W, Sem.run Tryz.prog (Instr.slice 9 (.string Z) none (some (.int .i64 (k : Int))) none) W = .ok (.string H) W := fun W => by
      have h := run_slice_string_to_if (P := Tryz.prog) W 9 Z .i64 (k : Int) Tryz.underlying9
      rw [if_pos (by omega), show ((k : Nat) : Int).toNat = k from rfl, ← hZ, strB_ext, List.drop_zero, Nat.sub_zero, hH, hZ] at h
      exact h
    have htail : ∀ W, Sem.run Tryz.prog (Instr.slice 9 (.string Z) (some (.int .i64 (k : Int))) none none) W = .ok (.string XD) W := fun W => by
      have h := run_slice_string_from_if (P := Tryz.prog) W 9 Z .i64 (k : Int) Tryz.underlying9
      rw [if_pos (by omega), show ((k : Nat) : Int).toNat = k from rfl, hZs, ← hZ, strB_ext, List.take_of_length_le (by simp), hXD, hZ] at h
      exact h
    have p1 := run_plus (A := H) (B := ⟨#[32]⟩) (C := X1) (S.take k) [32] hH.symm rfl hX1.symm (by simp; omega)
    have p2 := run_plus (A := X1) (B := XW) (C := X2) (S.take k ++ [32]) WD hX1.symm hXW.symm hX2.symm (by simp; omega)
    have p3 := run_plus (A := X2) (B := ⟨#[32]⟩) (C := X3) (S.take k ++ [32] ++ WD) [32] hX2.symm rfl hX3.symm (by simp; omega)
    have p4 := run_plus (A := X3) (B := XD) (C := XT) (S.take k ++ [32] ++ WD ++ [32]) (S.drop k) hX3.symm hXD.symm (by rw [hT]; exact hXT.symm) (by simp; omega)
    obtain ⟨O, hO⟩ : ∃ O, parseL S = O := ⟨_, rfl⟩
    obtain ⟨Q, hQ⟩ : ∃ Q, parseL T = Q := ⟨_, rfl⟩
    have HP1 := Lib.hid (fun w => z_Parse S w (by omega) hO)
    have HP2 := Lib.hid (fun w => z_Parse T w (by omega) hQ)
    have HY1 := Lib.hid (fun w => y_Parse S w (by omega) hO)
    have HY2 := Lib.hid (fun w => y_Parse T w (by omega) hQ)
    rw [hZ] at HP1 HY1
    rw [hXT] at HP2 HY2
    rw [hXW] at HW
    obtain ⟨NS, hNS⟩ : ∃ NS, S.length = NS := ⟨_, rfl⟩
    rw [hNS] at e1 e2 hkl ek1 ek2 hS4 hZs
    clear hbig hk hWD hWl hT hTl hH hX1 hXW hX2 hX3 hXD hXT hO hQ hNS hZ hSl
    go_wp2_with fail
    go_region_with (go_at_call 11; (with_reducible refine (HW.out _ (Below.refl _ _).drew).mono ?_); rintro e1 wz ⟨rfl, hbz⟩; have HBZ := Lib.hid hbz; clear hbz)
    all_goals (have HBa : Hid (Below w.heap.size w wz) := HB1.out.drew.trans (HBZ.out.mono HB1.out.size))
    all_goals (clear HBZ HB1 HW hhead htail p1 p2 p3 p4 ek1 ek2)
    all_goals go_wp2_with (first
      | (go_at_call 6; (with_reducible refine (HP1.out _).mono ?_); rintro e w2 ⟨v, rfl, hv, hb2⟩; obtain ⟨a3, a4, c3, c4, rfl⟩ := hv.pg2; have HV1 := Lib.hid hv; have HB2 := Lib.hid hb2; clear hv hb2 HP1)
      | (go_at_call 6; (with_reducible refine (HP2.out _).mono ?_); rintro e w3 ⟨v, rfl, hv, hb3⟩; obtain ⟨b1, b2, d1, d2, rfl⟩ := hv.pg2; have HV2 := Lib.hid hv; have HB3 := Lib.hid hb3; clear hv hb3 HP2)
      | (go_at_call 7; (with_reducible refine (HY1.out _).mono ?_); rintro e w4 ⟨x1, x2, rfl, hv, hb4⟩; obtain ⟨f1, f2, g1, g2, hab⟩ := hv.pg2; simp only [Value.agg.injEq, Array.mk.injEq, List.cons.injEq, and_true] at hab; obtain ⟨rfl, rfl⟩ := hab; have HV3 := Lib.hid hv; have HB4 := Lib.hid hb4; clear hv hb4 HY1)
      | (go_at_call 7; (with_reducible refine (HY2.out _).mono ?_); rintro e w5 ⟨x1, x2, rfl, hv, hb5⟩; obtain ⟨f3, f4, g3, g4, hab⟩ := hv.pg2; simp only [Value.agg.injEq, Array.mk.injEq, List.cons.injEq, and_true] at hab; obtain ⟨rfl, rfl⟩ := hab; have HV4 := Lib.hid hv; have HB5 := Lib.hid hb5; clear hv hb5 HY2))
    all_goals
      have ka : Below w2.heap.size w2 (w2.alloc (.cells #[.slice a3 O.p.datas.length c3, .slice a4 O.p.binds.length c4] 26)) := (Below.refl _ _).alloc (Nat.le_refl _) _
      have kb : Below w3.heap.size w3 (w3.alloc (.cells #[.slice b1 Q.p.datas.length d1, .slice b2 Q.p.binds.length d2] 26)) := (Below.refl _ _).alloc (Nat.le_refl _) _
      have kc : Below w5.heap.size w5 ((w5.alloc (.cells #[.slice f1 O.p.datas.length g1, .slice f2 O.p.binds.length g2, .int .i64 (O.e : Int), .int .i64 O.at_] 31)).alloc (.cells #[.slice f3 Q.p.datas.length g3, .slice f4 Q.p.binds.length g4, .int .i64 (Q.e : Int), .int .i64 Q.at_] 31)) := ((Below.refl _ _).alloc (Nat.le_refl _) _).alloc (by simp) _
      have k23 : Below w2.heap.size w2 w3 := ka.trans (HB3.out.mono (by simp))
      have k34 : Below w3.heap.size w3 w4 := kb.trans (HB4.out.mono (by simp))
      have k36 := (k34.trans (HB5.out.mono k34.size)).trans (kc.mono (Nat.le_trans k34.size HB5.out.size))
      have k26 := k23.trans (k36.mono k23.size)
      have k46 := HB5.out.trans (kc.mono HB5.out.size)
      have bx := (Box.new w5 31 [.slice f1 O.p.datas.length g1, .slice f2 O.p.binds.length g2, .int .i64 (O.e : Int), .int .i64 O.at_]).alloc (.cells #[.slice f3 Q.p.datas.length g3, .slice f4 Q.p.binds.length g4, .int .i64 (Q.e : Int), .int .i64 Q.at_] 31)
      have by_ := box_two (w := w5) (o := .cells #[.slice f1 O.p.datas.length g1, .slice f2 O.p.binds.length g2, .int .i64 (O.e : Int), .int .i64 O.at_] 31) (t := 31) (cs := [.slice f3 Q.p.datas.length g3, .slice f4 Q.p.binds.length g4, .int .i64 (Q.e : Int), .int .i64 Q.at_])
      have bp := ((Box.new w2 26 [.slice a3 O.p.datas.length c3, .slice a4 O.p.binds.length c4]).below HB3.out).below k36
      have bq := (((Box.new w3 26 [.slice b1 Q.p.datas.length d1, .slice b2 Q.p.binds.length d2]).below HB4.out).below HB5.out).below kc
      have v1 := HV1.out.under k26
      have v2 := HV2.out.under k36
      have v3 := HV3.out.under k46
      have v4 := HV4.out.under kc
      have HX : Hid (Below w.heap.size w ((w5.alloc (.cells #[.slice f1 O.p.datas.length g1, .slice f2 O.p.binds.length g2, .int .i64 (O.e : Int), .int .i64 O.at_] 31)).alloc (.cells #[.slice f3 Q.p.datas.length g3, .slice f4 Q.p.binds.length g4, .int .i64 (Q.e : Int), .int .i64 Q.at_] 31))) := by
        have h2 := HBa.out.trans (HB2.out.mono HBa.out.size)
        exact h2.trans (k26.mono h2.size)
      clear ka kb kc k23 k34 k36 k26 k46
      obtain ⟨w6, hw6⟩ : ∃ w6, (w5.alloc (.cells #[.slice f1 O.p.datas.length g1, .slice f2 O.p.binds.length g2, .int .i64 (O.e : Int), .int .i64 O.at_] 31)).alloc (.cells #[.slice f3 Q.p.datas.length g3, .slice f4 Q.p.binds.length g4, .int .i64 (Q.e : Int), .int .i64 Q.at_] 31) = w6 := ⟨_, rfl⟩
      rw [show ((w5.alloc (.cells ([.slice f1 O.p.datas.length g1, .slice f2 O.p.binds.length g2, .int .i64 (O.e : Int), .int .i64 O.at_] : List Value).toArray 31)).alloc (.cells #[.slice f3 Q.p.datas.length g3, .slice f4 Q.p.binds.length g4, .int .i64 (Q.e : Int), .int .i64 Q.at_] 31)) = w6 from hw6] at bx
      rw [show ((w5.alloc (.cells #[.slice f1 O.p.datas.length g1, .slice f2 O.p.binds.length g2, .int .i64 (O.e : Int), .int .i64 O.at_] 31)).alloc (.cells ([.slice f3 Q.p.datas.length g3, .slice f4 Q.p.binds.length g4, .int .i64 (Q.e : Int), .int .i64 Q.at_] : List Value).toArray 31)) = w6 from hw6] at by_
      rw [hw6] at HX bp bq v1 v2 v3 v4 ⊢
      clear hw6
      have H1 := same_prog_below O.p v1 v3
      have H3 := same_prog_below Q.p v2 v4
      have hz1 : ((O.e : Int) == (O.e : Int)) = true := by simp
      have hz2 : (O.at_ == O.at_) = true := by simp
      have hz3 : ((Q.e : Int) == (Q.e : Int)) = true := by simp
      have hz4 : (Q.at_ == Q.at_) = true := by simp
      obtain ⟨nd1, hnd1⟩ : ∃ n, O.p.datas.length = n := ⟨_, rfl⟩
      obtain ⟨nb1, hnb1⟩ : ∃ n, O.p.binds.length = n := ⟨_, rfl⟩
      obtain ⟨nd2, hnd2⟩ : ∃ n, Q.p.datas.length = n := ⟨_, rfl⟩
      obtain ⟨nb2, hnb2⟩ : ∃ n, Q.p.binds.length = n := ⟨_, rfl⟩
      obtain ⟨E1, hE1⟩ : ∃ E : Int, (O.e : Int) = E := ⟨_, rfl⟩
      obtain ⟨A1, hA1⟩ : ∃ A : Int, O.at_ = A := ⟨_, rfl⟩
      obtain ⟨E2, hE2⟩ : ∃ E : Int, (Q.e : Int) = E := ⟨_, rfl⟩
      obtain ⟨A2, hA2⟩ : ∃ A : Int, Q.at_ = A := ⟨_, rfl⟩
      rw [hnd1, hnb1] at H1 bp bx
      rw [hnd2, hnb2] at H3 bq by_
      rw [hE1, hA1] at bx
      rw [hE2, hA2] at by_
      rw [hE1] at hz1
      rw [hA1] at hz2
      rw [hE2] at hz3
      rw [hA2] at hz4
      rw [hnd1, hnb1, hnd2, hnb2, hE1, hA1, hE2, hA2]
      replace H1 := Lib.hid H1
      replace H3 := Lib.hid H3
      have H2 := Lib.hid (quiet_y (fun w => num_any E1 w) w6)
      have H4 := Lib.hid (quiet_y (fun w => num_any E2 w) w6)
      have H7 : Hid (∀ w', Below w6.heap.size w6 w' → Calls Tryz.prog 5 #[] w' fun e w'' => e = .returned (.bool true) ∧ Below w'.heap.size w' w'') := fun w' _ => z_awake w'
      have HK : Hid (∀ w', Below w6.heap.size w6 w' → (Below w6.heap.size w6 w' ∧ w'.cell? ⟨w2.heap.size, 0, none⟩ = some (.slice a3 nd1 c3) ∧ w'.cell? ⟨w2.heap.size, 1, none⟩ = some (.slice a4 nb1 c4) ∧ w'.cell? ⟨w3.heap.size, 0, none⟩ = some (.slice b1 nd2 d1) ∧ w'.cell? ⟨w3.heap.size, 1, none⟩ = some (.slice b2 nb2 d2) ∧ w'.cell? ⟨w5.heap.size, 0, none⟩ = some (.slice f1 nd1 g1) ∧ w'.cell? ⟨w5.heap.size, 1, none⟩ = some (.slice f2 nb1 g2) ∧ w'.cell? ⟨w5.heap.size, 2, none⟩ = some (.int .i64 E1) ∧ w'.cell? ⟨w5.heap.size, 3, none⟩ = some (.int .i64 A1) ∧ w'.cell? ⟨w5.heap.size + 1, 0, none⟩ = some (.slice f3 nd2 g3) ∧ w'.cell? ⟨w5.heap.size + 1, 1, none⟩ = some (.slice f4 nb2 g4) ∧ w'.cell? ⟨w5.heap.size + 1, 2, none⟩ = some (.int .i64 E2) ∧ w'.cell? ⟨w5.heap.size + 1, 3, none⟩ = some (.int .i64 A2))) :=
        fun w' h => ⟨h, (bp.below h).cell 0, (bp.below h).cell 1, (bq.below h).cell 0, (bq.below h).cell 1, (bx.below h).cell 0, (bx.below h).cell 1, (bx.below h).cell 2, (bx.below h).cell 3, (by_.below h).cell 0, (by_.below h).cell 1, (by_.below h).cell 2, (by_.below h).cell 3⟩
      have hs1 := bp.lt
      have hs2 := bq.lt
      have hs3 := bx.lt
      have hs4 := by_.lt
      clear HV1 HV2 HV3 HV4 HB2 HB3 HB4 HB5 HBa bp bq bx by_ v1 v2 v3 v4 hnd1 hnb1 hnd2 hnb2 hE1 hA1 hE2 hA2
      go_region_held3 (fun w' => Below w6.heap.size w6 w' ∧ w'.cell? ⟨w2.heap.size, 0, none⟩ = some (.slice a3 nd1 c3) ∧ w'.cell? ⟨w2.heap.size, 1, none⟩ = some (.slice a4 nb1 c4) ∧ w'.cell? ⟨w3.heap.size, 0, none⟩ = some (.slice b1 nd2 d1) ∧ w'.cell? ⟨w3.heap.size, 1, none⟩ = some (.slice b2 nb2 d2) ∧ w'.cell? ⟨w5.heap.size, 0, none⟩ = some (.slice f1 nd1 g1) ∧ w'.cell? ⟨w5.heap.size, 1, none⟩ = some (.slice f2 nb1 g2) ∧ w'.cell? ⟨w5.heap.size, 2, none⟩ = some (.int .i64 E1) ∧ w'.cell? ⟨w5.heap.size, 3, none⟩ = some (.int .i64 A1) ∧ w'.cell? ⟨w5.heap.size + 1, 0, none⟩ = some (.slice f3 nd2 g3) ∧ w'.cell? ⟨w5.heap.size + 1, 1, none⟩ = some (.slice f4 nb2 g4) ∧ w'.cell? ⟨w5.heap.size + 1, 2, none⟩ = some (.int .i64 E2) ∧ w'.cell? ⟨w5.heap.size + 1, 3, none⟩ = some (.int .i64 A2))
        (first
          | exact HK.out _ (Below.refl _ _).drew
          | exact HK.out _ (below_nxy (And.left (by assumption)) hbz (Nat.le_refl _)))
        (first
          | (go_at_call 8; (with_reducible refine (H1.out _ ?_).mono ?_); exact And.left (by assumption); rintro e wz ⟨rfl, hbz⟩)
          | (go_at_call 8; (with_reducible refine (H3.out _ ?_).mono ?_); exact And.left (by assumption); rintro e wz ⟨rfl, hbz⟩)
          | (go_at_call 9; (with_reducible refine (H2.out _ ?_).mono ?_); exact And.left (by assumption); rintro e wz ⟨rfl, hbz⟩)
          | (go_at_call 9; (with_reducible refine (H4.out _ ?_).mono ?_); exact And.left (by assumption); rintro e wz ⟨rfl, hbz⟩)
          | (go_at_call 5; (with_reducible refine (H7.out _ ?_).mono ?_); exact And.left (by assumption); rintro e wz ⟨rfl, hbz⟩))
      all_goals go_wp2
      all_goals go_ret
      all_goals refine ⟨rfl, HX.out.trans (Below.mono (B := w6.heap.size) ?_ HX.out.size)⟩
      all_goals exact And.left (by assumption)

end Go.Proofs.YtccilgemfkdmkaaGreat
