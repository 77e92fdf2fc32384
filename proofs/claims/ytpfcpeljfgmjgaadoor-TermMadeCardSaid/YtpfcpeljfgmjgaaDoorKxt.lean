/- The law TermTexts. -/
import Derived.Test.YtpfcpeljfgmjgaaDoorKlw
namespace Go.Proofs.YtpfcpeljfgmjgaaDoor
open Go.RowKit
set_option linter.unusedVariables false
set_option linter.unusedSimpArgs false

theorem MkT.vs_lt {v : Nat} {t : Ty} (k : MkT v t) : ∀ n ∈ t.vs, 0 ≤ n ∧ n < (v : Int) := by
  induction k with
  | vr n hn => intro m hm; simp [vrT, Ty.vs, Ty.vss] at hm; omega
  | int => intro m hm; simp [cnT, Ty.vs, Ty.vss] at hm
  | bool => intro m hm; simp [cnT, Ty.vs, Ty.vss] at hm
  | ar _ _ a b => intro m hm; simp [arT, Ty.vs, Ty.vss] at hm; rcases hm with h | h; exact a m h; exact b m h
  | pa _ _ a b => intro m hm; simp [paT, Ty.vs, Ty.vss] at hm; rcases hm with h | h; exact a m h; exact b m h
  | li _ a => intro m hm; simp [liT, Ty.vs, Ty.vss] at hm; exact a m hm
/-- What is known of a type by so few numbers. -/
theorem mk_facts (ns : List Nat) (k : Nat) (hn : ns.length ≤ 24) (hk : k ≤ 60) : mayL 100 (makeT ns k) = true ∧ (makeT ns k).nn ≤ 100000000 ∧ ∀ (B : Nat) (w : World), ITs B w (makeT ns k) := by
  refine ⟨(makeT_mk ns k).may (by omega) 100 (by have := makeT_deep ns k; omega), ?_, fun B w v hv h26 => ?_⟩
  · have h1 := makeT_nn ns k
    have h2 : 2 ^ (ns.length + 1) ≤ 2 ^ 25 := Nat.pow_le_pow_right (by omega) (by omega)
    omega
  · have := (makeT_mk ns k).vs_lt v hv
    exact itw_small B w _ (by omega)
theorem awake_any (w : World) : Calls Tryd.prog 19 #[] w fun e w' => e = .returned (.bool true) ∧ Below w.heap.size w w' := awake_law w
/-- Brackets that are open. -/
def opn (s : By) (i : Nat) : Nat := (s.take i).count 40 - (s.take i).count 41
theorem opn_step {s : By} (h : Bal s) {i : Nat} {c : UInt8} (hc : s[i]? = some c) :
    (c = 40 ∧ opn s (i + 1) = opn s i + 1) ∨ (c = 41 ∧ opn s i = opn s (i + 1) + 1) ∨ (c ≠ 40 ∧ c ≠ 41 ∧ opn s (i + 1) = opn s i) := by
  have ht := take_snoc' hc
  have h1 := h.2 (i + 1)
  have h2 := h.2 i
  have e40 : (s.take (i + 1)).count 40 = (s.take i).count 40 + if c = 40 then 1 else 0 := by rw [ht, List.count_append]; simp [List.count_singleton]
  have e41 : (s.take (i + 1)).count 41 = (s.take i).count 41 + if c = 41 then 1 else 0 := by rw [ht, List.count_append]; simp [List.count_singleton]
  unfold opn
  by_cases h40 : c = 40
  · have h41 : c ≠ 41 := by rw [h40]; decide
    rw [if_pos h40] at e40; rw [if_neg h41] at e41
    exact .inl ⟨h40, by omega⟩
  · by_cases h41 : c = 41
    · rw [if_neg h40] at e40; rw [if_pos h41] at e41
      exact .inr (.inl ⟨h41, by omega⟩)
    · rw [if_neg h40] at e40; rw [if_neg h41] at e41
      exact .inr (.inr ⟨h40, h41, by omega⟩)
theorem opn_le (s : By) (i : Nat) : opn s i ≤ s.length := by
  have h1 := List.count_le_length (a := (40 : UInt8)) (l := s.take i)
  have h2 := List.length_take_le i s
  unfold opn; rw [List.length_take] at h1; omega
theorem opn_end {s : By} (h : Bal s) {i : Nat} (hi : s.length ≤ i) : opn s i = 0 := by
  unfold opn; rw [List.take_of_length_le hi, h.1]; omega

set_option maxRecDepth 100000 in
set_option maxHeartbeats 8000000 in
theorem texts_awake (a_n a_m : Option Addr) (N M c_n c_m : Nat) (n : Int) (w : World) (hl : 24 < N ∨ 24 < M) (hN : N ≤ 9223372036854775807) (hM : M ≤ 9223372036854775807) :
    Calls Tryd.prog 8 #[.slice a_n N c_n, .slice a_m M c_m, .int .u8 n] w fun e w' => e = .returned (.bool true) ∧ Below w.heap.size w w' := by
  have hl' : (decide ((24 : Int) < (N : Int)) = true ∧ decide (24 < N) = true) ∨ ((decide ((24 : Int) < (N : Int)) = false ∧ decide (24 < N) = false) ∧ decide ((24 : Int) < (M : Int)) = true ∧ decide (24 < M) = true) := by
    by_cases h : 24 < N
    · exact .inl ⟨decide_eq_true (by omega), decide_eq_true h⟩
    · exact .inr ⟨⟨decide_eq_false (by omega), decide_eq_false h⟩, decide_eq_true (by omega), decide_eq_true (by omega)⟩
  clear hl
  rcases hl' with ⟨e1, e2⟩ | ⟨⟨e1, e2⟩, e3, e4⟩
  all_goals
    go_enter Tryd.func8, Tryd.ntmps8
    go_wp2_with (go_at_call 19; (with_reducible refine (awake_any _).mono ?_); rintro e w2 ⟨rfl, hb2⟩; have HB2 := Lib.hid hb2; clear hb2)
    go_ret
    exact ⟨rfl, HB2.out⟩

set_option maxRecDepth 100000 in
set_option maxHeartbeats 8000000 in
theorem texts_main (a_n a_m : Option Addr) (N M c_n c_m : Nat) (ns ms : List Nat) (n : Nat) (w : World) (hn1 : BY w a_n ns) (hm1 : BY w a_m ms) (hN : ns.length = N) (hM : ms.length = M) (hn24 : N ≤ 24) (hm24 : M ≤ 24) (hcn : N ≤ c_n) (hcm : M ≤ c_m) (hcn2 : c_n ≤ maxLen) (hcm2 : c_m ≤ maxLen) (hn : n ≤ 255) :
    Calls Tryd.prog 8 #[.slice a_n N c_n, .slice a_m M c_m, .int .u8 (n : Int)] w fun e w' => e = .returned (.bool true) ∧ Below w.heap.size w w' := by
  have e1 : decide ((24 : Int) < (N : Int)) = false := decide_eq_false (by omega)
  have e2 : decide (24 < N) = false := decide_eq_false (by omega)
  have e3 : decide ((24 : Int) < (M : Int)) = false := decide_eq_false (by omega)
  have e4 : decide (24 < M) = false := decide_eq_false (by omega)
  obtain ⟨q, hq⟩ : ∃ q, n % 60 = q := ⟨_, rfl⟩
  have ewn : IntKind.i64.wrap (n : Int) = (n : Int) := by rw [IntKind.wrap_i64]; omega
  have eq1 : (n : Int).tmod 60 = (q : Int) := by rw [Int.tmod_eq_emod_of_nonneg (by omega)]; omega
  have eq2 : (n : Int) % 60 = (q : Int) := by omega
  have hq60 : q < 60 := by omega
  obtain ⟨k, hk⟩ : ∃ k, 1 + q = k := ⟨_, rfl⟩
  have hk60 : k ≤ 60 := by omega
  have hk1 : 1 ≤ k := by omega
  have ewk : IntKind.i64.wrap (1 + (q : Int)) = (k : Int) := by rw [IntKind.wrap_i64]; omega
  have ek : 1 + (q : Int) = (k : Int) := by omega
  have HF := Lib.hid (mk_facts ns k (by omega) hk60)
  have HG := Lib.hid (mk_facts ms k (by omega) hk60)
  have HBAL := Lib.hid ((makeT_mk ns k).bal hk60)
  have HINJ := Lib.hid (text_inj hk60 (makeT_mk ns k) (makeT_mk ms k))
  have HM1 : Hid (Calls Tryd.prog 34 #[.slice a_n N c_n, .int .i64 (k : Int)] w fun e w' => ∃ u, e = .returned u ∧ IsV (New w) w' (tyC (makeT ns k)) u ∧ Below w.heap.size w w') := by
    have := mk_all ns a_n c_n k w hn1 (by omega) hcn2 hk1 (by omega)
    rwa [hN] at this
  have HM2 : Hid (∀ W, Below w.heap.size w W → Calls Tryd.prog 34 #[.slice a_m M c_m, .int .i64 (k : Int)] W fun e w' => ∃ u, e = .returned u ∧ IsV (New W) w' (tyC (makeT ms k)) u ∧ Below W.heap.size W w') := by
    show ∀ W, _
    intro W hW
    have := mk_all ms a_m c_m k W (hm1.under hW) (by omega) hcm2 hk1 (by omega)
    rwa [hM] at this
  obtain ⟨t, ht⟩ : ∃ t, makeT ns k = t := ⟨_, rfl⟩
  obtain ⟨u, hu⟩ : ∃ u, makeT ms k = u := ⟨_, rfl⟩
  rw [ht] at HF HBAL HM1 HINJ
  rw [hu] at HG HM2 HINJ
  clear hn1 hm1 hN hM hn24 hm24 hcn hcm hcn2 hcm2 hq hk ht hu
  go_enter Tryd.func8, Tryd.ntmps8
  go_upto_region 5 with (first
    | (go_at_call 34; (with_reducible refine (HM1.out).mono ?_); rintro e w1 ⟨v1, rfl, hv1, hb1⟩; have HV1 := Lib.hid (hv1.mono fun _ _ _ => trivial : IsV (fun _ => True) w1 (tyC t) v1); obtain ⟨k1, n1, s1, a1, m1, c1, rfl⟩ := hv1.tys; have HB1 := Lib.hid hb1; clear hv1 hb1)
    | (go_at_call 34; (with_reducible refine (HM2.out _ HB1.out).mono ?_); rintro e w2 ⟨v2, rfl, hv2, hb2⟩; have HV2 := Lib.hid (hv2.mono fun _ _ _ => trivial : IsV (fun _ => True) w2 (tyC u) v2); have HV12 := Lib.hid (HV1.out.under hb2); obtain ⟨k2, n2, s2, a2, m2, c2, rfl⟩ := hv2.tys; have HB2 := Lib.hid (HB1.out.trans (hb2.mono HB1.out.size)); clear hv2 hb2))
  obtain ⟨W5, hW5⟩ : ∃ W5, (w2.alloc (.cells #[.int .i64 k1, .int .i64 n1, .string (strB s1), .slice a1 m1 c1] 47)).alloc (.cells #[.int .i64 k2, .int .i64 n2, .string (strB s2), .slice a2 m2 c2] 47) = W5 := ⟨_, rfl⟩
  have hb5 : Below w2.heap.size w2 W5 := hW5 ▸ ((Below.refl _ w2).alloc (Nat.le_refl _) _).alloc (by simp) _
  have hbt : Box W5 w2.heap.size 47 [.int .i64 k1, .int .i64 n1, .string (strB s1), .slice a1 m1 c1] := hW5 ▸ (Box.new w2 47 [.int .i64 k1, .int .i64 n1, .string (strB s1), .slice a1 m1 c1]).alloc _
  have hbu : Box W5 (w2.heap.size + 1) 47 [.int .i64 k2, .int .i64 n2, .string (strB s2), .slice a2 m2 c2] := by
    rw [← hW5]
    have := Box.new (w2.alloc (.cells #[.int .i64 k1, .int .i64 n1, .string (strB s1), .slice a1 m1 c1] 47)) 47 [.int .i64 k2, .int .i64 n2, .string (strB s2), .slice a2 m2 c2]
    rwa [World.size_alloc] at this
  have HVt := Lib.hid (HV12.out.under hb5)
  have HVu := Lib.hid (HV2.out.under hb5)
  have HB5 : Hid (Below w.heap.size w W5) := HB2.out.trans (hb5.mono HB2.out.size)
  have HBT := Lib.hid hbt
  have HBU := Lib.hid hbu
  obtain ⟨_, _, _, _⟩ := four_cells hbt
  obtain ⟨_, _, _, _⟩ := four_cells hbu
  have hlt := hbt.lt
  have hlu := hbu.lt
  rw [hW5]
  obtain ⟨z1, hz1⟩ : ∃ z, strB s1 = z := ⟨_, rfl⟩
  obtain ⟨z2, hz2⟩ : ∃ z, strB s2 = z := ⟨_, rfl⟩
  rw [hz1] at HVt HBT
  rw [hz2] at HVu HBU
  simp only [hz1, hz2] at *
  clear hW5 hb5 hbt hbu HV1 HV2 HV12 HB1 HB2 HM1 HM2 hz1 hz2
  have HTX : Hid (∀ W, Below W5.heap.size W5 W → Calls Tryd.prog 32 #[.agg #[.int .i64 k1, .int .i64 n1, .string z1, .slice a1 m1 c1]] W fun e w' => e = .returned (.string (strB (textL t))) ∧ Below W.heap.size W w') := fun W hW => ty_Text t _ _ W (HVt.out.under hW) HF.out.1 (by have := HF.out.2.1; omega) (HF.out.2.2 _ _)
  have HTU : Hid (∀ W, Below W5.heap.size W5 W → Calls Tryd.prog 32 #[.agg #[.int .i64 k2, .int .i64 n2, .string z2, .slice a2 m2 c2]] W fun e w' => e = .returned (.string (strB (textL u))) ∧ Below W.heap.size W w') := fun W hW => ty_Text u _ _ W (HVu.out.under hW) HG.out.1 (by have := HG.out.2.1; omega) (HG.out.2.2 _ _)
  have HSM : Hid (∀ W, Below W5.heap.size W5 W → Calls Tryd.prog 25 #[.agg #[.int .i64 k1, .int .i64 n1, .string z1, .slice a1 m1 c1], .agg #[.int .i64 k2, .int .i64 n2, .string z2, .slice a2 m2 c2]] W fun e w' => e = .returned (.bool (eqD t u)) ∧ Below W.heap.size W w') := fun W hW => r_SameType t u _ _ _ _ W (HVt.out.under hW) (HVu.out.under hW)
  have hXl : (textL t).length ≤ 12000000000 := by
    have h1 := okT_len ⟨100, HF.out.1⟩
    have h2 := HF.out.2.1
    omega
  obtain ⟨X, hX⟩ : ∃ X, textL t = X := ⟨_, rfl⟩
  obtain ⟨Y, hY⟩ : ∃ Y, textL u = Y := ⟨_, rfl⟩
  obtain ⟨b, hb⟩ : ∃ b, eqD t u = b := ⟨_, rfl⟩
  rw [hX] at HTX HBAL hXl HINJ
  rw [hY] at HTU HINJ
  rw [hb] at HSM
  have hbXY : decide (X = Y) = b := by
    rw [← hb]; unfold eqD
    exact decide_eq_decide.2 HINJ.out
  obtain ⟨zx, hzx⟩ : ∃ z, strB X = z := ⟨_, rfl⟩
  obtain ⟨zy, hzy⟩ : ∃ z, strB Y = z := ⟨_, rfl⟩
  rw [hzx] at HTX
  rw [hzy] at HTU
  have hzxl : zx.data.toList = X := by rw [← hzx, strB_list]
  have hzyl : zy.data.toList = Y := by rw [← hzy, strB_list]
  have hzs : zx.size = X.length := by rw [← hzxl]; simp
  have est : (zx.toList == zy.toList) = b := by
    rw [← hbXY, toList_dec, hzxl]
    have : zy.toList = Y := by
      have := toList_dec zy Y
      rw [hzyl, decide_eq_true rfl] at this
      simpa using this
    rw [this]
  have est2 : decide (zx = zy) = b := by
    rw [← hbXY]
    refine decide_eq_decide.2 ⟨fun h => by rw [← hzxl, ← hzyl, h], fun h => by rw [← hzx, ← hzy, h]⟩
  have hsz9 : zx.size ≤ 12000000000 := by omega
  have HXL := Lib.hid hzxl
  have HXS := Lib.hid hzs
  clear HF HG HVt HVu HINJ hX hY hb hzx hzy hzxl hzyl hzs hXl hbXY
  go_upto_region 6 with (go_at_call 32; (with_reducible refine (HTX.out _ (Below.refl _ _)).mono ?_); rintro e w6 ⟨rfl, hb6⟩; have HB6 := Lib.hid hb6; have hbt6 := HBT.out.below hb6; have hbu6 := HBU.out.below hb6; obtain ⟨_, _, _, _⟩ := four_cells hbt6; obtain ⟨_, _, _, _⟩ := four_cells hbu6; have hlt6 := hbt6.lt; have hlu6 := hbu6.lt; clear hb6 hbt6 hbu6)
  go_wp2_with fail
  go_loop [11, 12] (fun ov iv => ∃ i : Nat, i ≤ zx.size ∧ iv = .int .i64 (i : Int) ∧ ov = .int .i64 ((opn X i : Nat) : Int)) (fun _ iv => zx.size - (intOf iv).toNat)
  case atStart => exact ⟨0, Nat.zero_le _, rfl, by simp [opn]⟩
  case round =>
    obtain ⟨i, hi, rfl, rfl⟩ := hrel
    by_cases hlt : i < zx.size
    · have hc : X[i]? = some zx[i] := by
        rw [← HXL.out]; simp [hlt]; rfl
      have hst := opn_step HBAL.out hc
      have hle := opn_le X i
      have hle2 := opn_le X (i + 1)
      rw [← HXS.out] at hle hle2
      obtain ⟨o, ho⟩ : ∃ o, opn X i = o := ⟨_, rfl⟩
      obtain ⟨o', ho'⟩ : ∃ o, opn X (i + 1) = o := ⟨_, rfl⟩
      have HO' := Lib.hid ho'
      rw [ho, ho'] at hst
      rw [ho'] at hle2
      rw [ho] at hle ⊢
      obtain ⟨cc, hcc⟩ : ∃ cc, zx[i].toNat = cc := ⟨_, rfl⟩
      have hst2 : (cc = 40 ∧ o' = o + 1) ∨ (cc = 41 ∧ o = o' + 1) ∨ (((cc : Int) == 40) = false ∧ ((cc : Int) == 41) = false ∧ o' = o) := by
        rcases hst with ⟨h1, h2⟩ | ⟨h1, h2⟩ | ⟨h1, h2, h3⟩
        · exact .inl ⟨by rw [← hcc, h1]; rfl, h2⟩
        · exact .inr (.inl ⟨by rw [← hcc, h1]; rfl, h2⟩)
        · refine .inr (.inr ⟨?_, ?_, h3⟩)
          · rw [Bool.eq_false_iff]; simp only [ne_eq, beq_iff_eq]; intro e
            exact h1 (UInt8.toNat_inj.1 (by rw [hcc]; show cc = 40; omega))
          · rw [Bool.eq_false_iff]; simp only [ne_eq, beq_iff_eq]; intro e
            exact h2 (UInt8.toNat_inj.1 (by rw [hcc]; show cc = 41; omega))
      have eo : decide ((o' : Int) < 0) = false := decide_eq_false (by omega)
      clear hst hc ho ho'
      rcases hst2 with ⟨rfl, rfl⟩ | ⟨rfl, rfl⟩ | ⟨f1, f2, rfl⟩
      all_goals
        go_wp2_with fail
        go_round
        case rel => exact ⟨i + 1, by omega, by go_num, by rw [HO'.out] <;> go_num⟩
        case measure => (simp [intOf]; omega)
    · have him : i = zx.size := by omega
      subst him
      rw [opn_end HBAL.out (by rw [HXS.out]; exact Nat.le_refl _)]
      have HD6 : Hid (Below W5.heap.size W5 w6.drew) := HB6.out.drew
      go_upto_region 16 with fail
      all_goals
        go_region_with (first
          | (go_at_call 32; (with_reducible refine (HTU.out _ HD6.out).mono ?_); rintro e w7 ⟨rfl, hb7⟩; have HB7 : Hid (Below W5.heap.size W5 w7) := HD6.out.trans (hb7.mono HD6.out.size); have hbt7 := HBT.out.below HB7.out; have hbu7 := HBU.out.below HB7.out; obtain ⟨_, _, _, _⟩ := four_cells hbt7; obtain ⟨_, _, _, _⟩ := four_cells hbu7; have hlt7 := hbt7.lt; have hlu7 := hbu7.lt; clear hb7 hbt7 hbu7)
          | (go_at_call 25; (with_reducible refine (HSM.out _ HB7.out).mono ?_); rintro e w8 ⟨rfl, hb8⟩; have HB8 : Hid (Below W5.heap.size W5 w8) := HB7.out.trans (hb8.mono HB7.out.size); clear hb8)
          | (go_at_call 19; (with_reducible refine (awake_any _).mono ?_); rintro e w9 ⟨rfl, hb9⟩; have HB9 : Hid (Below W5.heap.size W5 w9) := HB8.out.trans (hb9.mono HB8.out.size); clear hb9))
        all_goals go_wp2_with fail
        all_goals go_ret
        all_goals exact ⟨rfl, HB5.out.trans (HB9.out.mono HB5.out.size)⟩
theorem texts_law (a_n a_m : Option Addr) (N M c_n c_m : Nat) (ns ms : List Nat) (n : Nat) (w : World) (hn1 : BY w a_n ns) (hm1 : BY w a_m ms) (hN : ns.length = N) (hM : ms.length = M) (hcn : N ≤ c_n) (hcm : M ≤ c_m) (hcn2 : c_n ≤ maxLen) (hcm2 : c_m ≤ maxLen) (hn : n ≤ 255) :
    Calls Tryd.prog 8 #[.slice a_n N c_n, .slice a_m M c_m, .int .u8 (n : Int)] w fun e w' => e = .returned (.bool true) ∧ Below w.heap.size w w' := by
  have h1 := hcn2
  have h2 := hcm2
  unfold maxLen at h1 h2
  by_cases h : 24 < N ∨ 24 < M
  · exact texts_awake a_n a_m N M c_n c_m n w h (by omega) (by omega)
  · exact texts_main a_n a_m N M c_n c_m ns ms n w hn1 hm1 hN hM (by omega) (by omega) hcn hcm hcn2 hcm2 hn

end Go.Proofs.YtpfcpeljfgmjgaaDoor
