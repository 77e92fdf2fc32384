/- The walks of the laws LexAll, LexMade: they return true and change nothing that was there. -/
import Derived.Test.YtdhkcbkeehameaaLexl
import Derived.Test.YtdhkcbkeehameaaLexg
import Derived.Test.YtdhkcbkeehameaaLexwd
namespace Go.Proofs.Ytdhkcbkeehameaa
open Go.RowKit
set_option linter.unusedVariables false
set_option linter.unusedSimpArgs false

/-- Both tell the same: tokens that lie in memory, or where something is wrong. -/
theorem both_of {w w1 w2 : World} {x : Lx} {v1 v2 : Value} {E1 A1 E2 A2 : Int} (h1 : LexOut w x v1 E1 A1 w1) (h2 : LexOut w1 x v2 E2 A2 w2) (hb : Below w1.heap.size w1 w2) :
    E1 = E2 ∧ A1 = A2 ∧ ∃ (n : Nat) (a1 a2 : Option Addr) (c1 c2 : Nat) (ts : List Tk), v1 = .slice a1 n c1 ∧ v2 = .slice a2 n c2 ∧ TR w2.heap.size w2 a1 n ts ∧ TR w2.heap.size w2 a2 n ts ∧ (ts = [] ∨ x = .ok ts) := by
  rcases Lx.cases x with ⟨i, hx⟩ | ⟨ts, hx⟩
  · obtain ⟨r1, r2, r3⟩ := h1.of_bad hx
    obtain ⟨s1, s2, s3⟩ := h2.of_bad hx
    exact ⟨by rw [r2, s2], by rw [r3, s3], 0, none, none, 0, 0, [], r1, s1, ⟨rfl, .inl rfl⟩, ⟨rfl, .inl rfl⟩, .inl rfl⟩
  · obtain ⟨⟨a1, c1, r1, _, t1⟩, r2, r3⟩ := h1.of_ok hx
    obtain ⟨⟨a2, c2, s1, _, t2⟩, s2, s3⟩ := h2.of_ok hx
    exact ⟨by rw [r2, s2], by rw [r3, s3], ts.length, a1, a2, c1, c2, ts, r1, s1, (t1.below hb (Nat.le_refl _)).mono hb.size, t2, .inr hx⟩

set_option maxRecDepth 100000 in
set_option maxHeartbeats 2000000 in
theorem all_law (s : ByteArray) (w : World) (hs : s.size ≤ 9223372036854775807) :
    Calls Try.prog 3 #[.string s] w fun e w' => e = .returned (.bool true) ∧ Below w.heap.size w w' := by
  by_cases h1 : 3000 < s.size
  · go_enter Try.func3, Try.ntmps3
    go_wp2_with (go_at_call 9; refine (awake9 _).mono ?_; rintro e w' ⟨rfl, hb⟩)
    go_ret
    exact ⟨rfl, hb⟩
  · have hs1 : s.size ≤ 65536 := by omega
    have hsm : s.size ≤ maxLen := by unfold maxLen; omega
    have HM := Lib.hid hsm
    have HS1 := Lib.hid hs1
    go_enter Try.func3, Try.ntmps3
    go_wp2_with fail
    refine (t_lex s w HS1.out).mono ?_
    rintro e w1 ⟨v1, E1, A1, rfl, ho1, hb1⟩
    have HO1 := Lib.hid ho1
    have HB1 := Lib.hid hb1
    clear ho1 hb1
    go_wp2_with fail
    refine (rt_lex s w1 HS1.out).mono ?_
    rintro e w2 ⟨v2, E2, A2, rfl, ho2, hb2⟩
    obtain ⟨rfl, rfl, n, a1, a2, c1, c2, ts, rfl, rfl, ht1, ht2, hts⟩ := both_of HO1.out ho2 hb2
    have hfit : ∀ t ∈ ts, t.fit := by
      rcases hts with rfl | h
      · simp
      · exact lexL_fit (by rw [len_data]; omega) h
    have hn : n ≤ 1000000 := by
      rcases hts with rfl | h
      · have := ht1.1; simp at this; omega
      · have h3 := lexL_len h
        rw [len_data] at h3
        have := ht1.1; omega
    have HF := Lib.hid hfit
    have HN := Lib.hid hn
    have HT1 := Lib.hid ht1
    have HT2 := Lib.hid ht2
    have HB2 := Lib.hid (HB1.out.trans (hb2.mono HB1.out.size))
    clear HO1 ho2 hb2 hfit hn ht1 ht2 hts HB1
    obtain ⟨b1, hb1⟩ : ∃ b, nameL s.data.toList = b := ⟨_, rfl⟩
    obtain ⟨b2, hb2⟩ : ∃ b, conL s.data.toList = b := ⟨_, rfl⟩
    have K1 := Lib.hid hb1
    have K2 := Lib.hid hb2
    clear hb1 hb2
    go_wp2_with fail
    have HX := Lib.hid (show Below w.heap.size w (w2.alloc (.cells #[.slice a2 n c2, .int .i64 E1, .int .i64 A1] 28)) from HB2.out.alloc HB2.out.size _)
    have hb20 : Below w2.heap.size w2 (w2.alloc (.cells #[.slice a2 n c2, .int .i64 E1, .int .i64 A1] 28)) := (Below.refl _ _).alloc (Nat.le_refl _) _
    have b0 := Box.new w2 28 [.slice a2 n c2, .int .i64 E1, .int .i64 A1]
    have G1 := Lib.hid ((HT1.out.below hb20 (Nat.le_refl _)).mono hb20.size)
    have G2 := Lib.hid ((HT2.out.below hb20 (Nat.le_refl _)).mono hb20.size)
    have hzz : (E1 == E1) = true := by simp
    have hyy : (A1 == A1) = true := by simp
    generalize hw3 : w2.alloc (.cells #[.slice a2 n c2, .int .i64 E1, .int .i64 A1] 28) = w3 at *
    have K : ∀ w', Below w3.heap.size w3 w' → (Below w3.heap.size w3 w' ∧ w'.cell? ⟨w2.heap.size, 0, none⟩ = some (.slice a2 n c2) ∧ w'.cell? ⟨w2.heap.size, 1, none⟩ = some (.int .i64 E1) ∧ w'.cell? ⟨w2.heap.size, 2, none⟩ = some (.int .i64 A1)) :=
      fun w' h => ⟨h, (b0.below h).cell 0, (b0.below h).cell 1, (b0.below h).cell 2⟩
    have HK := Lib.hid K
    have H1 := Lib.hid (same_below a1 a2 n c1 c2 ts w3 G1.out G2.out HF.out HN.out)
    have H2 := Lib.hid (quiet_below (fun w => num_any E1 w) w3)
    have H3 := Lib.hid (quiet_below (fun w => by have := k_Name s w HM.out; rwa [K1.out] at this) w3)
    have H4 := Lib.hid (quiet_below (fun w => by have := r_Name s w HM.out; rwa [K1.out] at this) w3)
    have H5 := Lib.hid (quiet_below (fun w => by have := k_Con s w HM.out; rwa [K2.out] at this) w3)
    have H6 := Lib.hid (quiet_below (fun w => by have := r_Con s w HM.out; rwa [K2.out] at this) w3)
    have H7 := Lib.hid (awk_below w3)
    have hsz := b0.lt
    have HW := Lib.hid hw3
    clear K b0 hb20 hw3 HB2 G1 G2 HT1 HT2
    have q1 : (b1 == b1) = true := by simp
    have q2 : (b2 == b2) = true := by simp
    go_region_held3 (fun w' => Below w3.heap.size w3 w' ∧ w'.cell? ⟨w2.heap.size, 0, none⟩ = some (.slice a2 n c2) ∧ w'.cell? ⟨w2.heap.size, 1, none⟩ = some (.int .i64 E1) ∧ w'.cell? ⟨w2.heap.size, 2, none⟩ = some (.int .i64 A1))
      (first
        | exact HK.out _ (Below.refl _ _).drew
        | exact HK.out _ (below_nxt (And.left (by assumption)) hbz (Nat.le_refl _)))
      (first
        | (go_at_call 12; (with_reducible refine (H1.out _ ?_).mono ?_); exact And.left (by assumption); rintro e wz ⟨rfl, hbz⟩)
        | (go_at_call 13; (with_reducible refine (H2.out _ ?_).mono ?_); exact And.left (by assumption); rintro e wz ⟨rfl, hbz⟩)
        | (go_at_call 14; (with_reducible refine (H3.out _ ?_).mono ?_); exact And.left (by assumption); rintro e wz ⟨rfl, hbz⟩)
        | (go_at_call 15; (with_reducible refine (H4.out _ ?_).mono ?_); exact And.left (by assumption); rintro e wz ⟨rfl, hbz⟩)
        | (go_at_call 16; (with_reducible refine (H5.out _ ?_).mono ?_); exact And.left (by assumption); rintro e wz ⟨rfl, hbz⟩)
        | (go_at_call 17; (with_reducible refine (H6.out _ ?_).mono ?_); exact And.left (by assumption); rintro e wz ⟨rfl, hbz⟩)
        | (go_at_call 9; (with_reducible refine (H7.out _ ?_).mono ?_); exact And.left (by assumption); rintro e wz ⟨rfl, hbz⟩))
    go_wp2
    go_ret
    refine ⟨rfl, HX.out.trans (Below.mono (B := w3.heap.size) ?_ HX.out.size)⟩
    exact And.left (by assumption)

set_option maxRecDepth 100000 in
set_option maxHeartbeats 2000000 in
theorem made_law (a : Option Addr) (n1 c1 : Nat) (bs : List Nat) (w : World) (hr : RowY 0 w.heap.size w a n1 bs) (hb : ∀ i, i < n1 → bs.getD i 0 ≤ 255) (hn1 : n1 ≤ 9223372036854775807) :
    Calls Try.prog 4 #[.slice a n1 c1] w fun e w' => e = .returned (.bool true) ∧ Below w.heap.size w w' := by
  have HW := Lib.hid (words_any a n1 c1 bs w hr hb hn1)
  obtain ⟨s, hs⟩ : ∃ s, strB (textL bs) = s := ⟨_, rfl⟩
  rw [hs] at HW
  have hs2 : s.size ≤ 2000 := by rw [← hs, strB_size]; exact textL_len _
  clear hs hr hb
  have hs1 : s.size ≤ 65536 := by omega
  have HS1 := Lib.hid hs1
  go_enter Try.func4, Try.ntmps4
  go_wp2_with fail
  refine (HW.out).mono ?_
  rintro e w0 ⟨rfl, hb0⟩
  have HB0 := Lib.hid hb0
  clear hb0
  go_wp2_with fail
  refine (t_lex s w0 HS1.out).mono ?_
  rintro e w1 ⟨v1, E1, A1, rfl, ho1, hb1⟩
  have HO1 := Lib.hid ho1
  have HB1 := Lib.hid (HB0.out.trans (hb1.mono HB0.out.size))
  clear ho1 hb1
  go_wp2_with fail
  refine (rt_lex s w1 HS1.out).mono ?_
  rintro e w2 ⟨v2, E2, A2, rfl, ho2, hb2⟩
  obtain ⟨rfl, rfl, n, a1, a2, c1, c2, ts, rfl, rfl, ht1, ht2, hts⟩ := both_of HO1.out ho2 hb2
  have hfit : ∀ t ∈ ts, t.fit := by
    rcases hts with rfl | h
    · simp
    · exact lexL_fit (by rw [len_data]; omega) h
  have hn : n ≤ 1000000 := by
    rcases hts with rfl | h
    · have := ht1.1; simp at this; omega
    · have h3 := lexL_len h
      rw [len_data] at h3
      have := ht1.1; omega
  have HF := Lib.hid hfit
  have HN := Lib.hid hn
  have HT1 := Lib.hid ht1
  have HT2 := Lib.hid ht2
  have HB2 := Lib.hid (HB1.out.trans (hb2.mono HB1.out.size))
  clear HO1 ho2 hb2 hfit hn ht1 ht2 hts HB1 HB0
  go_wp2_with fail
  have HX := Lib.hid (show Below w.heap.size w (w2.alloc (.cells #[.slice a2 n c2, .int .i64 E1, .int .i64 A1] 28)) from HB2.out.alloc HB2.out.size _)
  have hb20 : Below w2.heap.size w2 (w2.alloc (.cells #[.slice a2 n c2, .int .i64 E1, .int .i64 A1] 28)) := (Below.refl _ _).alloc (Nat.le_refl _) _
  have b0 := Box.new w2 28 [.slice a2 n c2, .int .i64 E1, .int .i64 A1]
  have G1 := Lib.hid ((HT1.out.below hb20 (Nat.le_refl _)).mono hb20.size)
  have G2 := Lib.hid ((HT2.out.below hb20 (Nat.le_refl _)).mono hb20.size)
  have hzz : (E1 == E1) = true := by simp
  have hyy : (A1 == A1) = true := by simp
  generalize hw3 : w2.alloc (.cells #[.slice a2 n c2, .int .i64 E1, .int .i64 A1] 28) = w3 at *
  have K : ∀ w', Below w3.heap.size w3 w' → (Below w3.heap.size w3 w' ∧ w'.cell? ⟨w2.heap.size, 0, none⟩ = some (.slice a2 n c2) ∧ w'.cell? ⟨w2.heap.size, 1, none⟩ = some (.int .i64 E1) ∧ w'.cell? ⟨w2.heap.size, 2, none⟩ = some (.int .i64 A1)) :=
    fun w' h => ⟨h, (b0.below h).cell 0, (b0.below h).cell 1, (b0.below h).cell 2⟩
  have HK := Lib.hid K
  have H1 := Lib.hid (same_below a1 a2 n c1 c2 ts w3 G1.out G2.out HF.out HN.out)
  have H2 := Lib.hid (quiet_below (fun w => num_any E1 w) w3)
  have H7 := Lib.hid (awk_below w3)
  have hsz := b0.lt
  have HWW := Lib.hid hw3
  clear K b0 hb20 hw3 HB2 G1 G2 HT1 HT2
  go_region_held3 (fun w' => Below w3.heap.size w3 w' ∧ w'.cell? ⟨w2.heap.size, 0, none⟩ = some (.slice a2 n c2) ∧ w'.cell? ⟨w2.heap.size, 1, none⟩ = some (.int .i64 E1) ∧ w'.cell? ⟨w2.heap.size, 2, none⟩ = some (.int .i64 A1))
    (first
      | exact HK.out _ (Below.refl _ _).drew
      | exact HK.out _ (below_nxt (And.left (by assumption)) hbz (Nat.le_refl _)))
    (first
      | (go_at_call 12; (with_reducible refine (H1.out _ ?_).mono ?_); exact And.left (by assumption); rintro e wz ⟨rfl, hbz⟩)
      | (go_at_call 13; (with_reducible refine (H2.out _ ?_).mono ?_); exact And.left (by assumption); rintro e wz ⟨rfl, hbz⟩)
      | (go_at_call 9; (with_reducible refine (H7.out _ ?_).mono ?_); exact And.left (by assumption); rintro e wz ⟨rfl, hbz⟩))
  go_wp2
  go_ret
  refine ⟨rfl, HX.out.trans (Below.mono (B := w3.heap.size) ?_ HX.out.size)⟩
  exact And.left (by assumption)

end Go.Proofs.Ytdhkcbkeehameaa
