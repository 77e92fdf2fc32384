/- The walk of the law LexBlanks: it returns true and changes nothing that was there. -/
import Derived.Test.YtdhkcbkeehameaaLexl
import Derived.Test.YtdhkcbkeehameaaLexM
import Derived.Test.YtdhkcbkeehameaaLexwd
namespace Go.Proofs.Ytdhkcbkeehameaa
open Go.RowKit
set_option linter.unusedVariables false
set_option linter.unusedSimpArgs false

theorem t_lexB (l : By) (w : World) (hl : l.length ≤ 65536) :
    Calls Try.prog 10 #[.string (strB l)] w fun e w' => ∃ v E A, e = .returned (.tuple #[v, .int .i64 E, .int .i64 A]) ∧ LexOut w (lexL l 0) v E A w' ∧ Below w.heap.size w w' := by
  have h := t_lex (strB l) w (by rw [strB_size]; exact hl)
  rwa [strB_data] at h

theorem below_drewN {B : Nat} {w w' : World} (h : Below B w w') (n : Nat) : Below B w (w'.drewN n) := ⟨h.os, h.tape, h.output, h.size, h.block⟩
theorem run_head4 {P : Program} {t : TypeId} (ht : P.underlying t = some (.slice (P.elem t))) (hs : (P.info? (P.elem t)).map (fun i => i.size) = some 4) (a : Option Addr) (n cap m : Nat) (hm : m ≤ n) (hn : n ≤ cap) :
    ∃ a', (∀ b off, a = some ⟨b, off, none⟩ → 0 < m → a' = some ⟨b, off, none⟩) ∧ ∀ w, Sem.run P (Instr.slice t (.slice a n cap) none (some (.int .i64 (m : Int))) none) w = .ok (.slice a' m cap) w := by
  refine ⟨if cap = 0 then a else a.map (·.add 0), fun b off h hm0 => ?_, fun w => ?_⟩
  · subst h; rw [if_neg (by omega)]; simp [Addr.add]
  · rw [run_slice_h w t _ n cap ht .i64 m (by omega) (by omega)]
    obtain ⟨i, hi, he⟩ := Option.map_eq_some_iff.1 hs
    simp [sizeOf, typeInfo, hi, he, sliced, Result.andThen]
theorem TR.head {hi n m : Nat} {w : World} {a a' : Option Addr} {xs ys : List Tk} (h : TR hi w a n (xs ++ ys)) (hm : xs.length = m) (ha : ∀ b off, a = some ⟨b, off, none⟩ → 0 < m → a' = some ⟨b, off, none⟩) : TR hi w a' m xs := by
  obtain ⟨h1, h2⟩ := h
  refine ⟨hm, ?_⟩
  by_cases h0 : m = 0
  · exact .inl h0
  · rcases h2 with h2 | ⟨b, off, e, hb, hc⟩
    · rw [List.length_append] at h1; omega
    · refine .inr ⟨b, off, ha b off e (by omega), hb, fun i t ht => hc i t ?_⟩
      rw [List.getElem?_append_left (List.getElem?_eq_some_iff.1 ht).1]; exact ht
theorem Try.tokElem : Try.prog.underlying 23 = some (.slice (Try.prog.elem 23)) := by kernel_rfl
theorem Try.tokSize : (Try.prog.info? (Try.prog.elem 23)).map (fun i => i.size) = some 4 := by kernel_rfl

set_option maxRecDepth 100000 in
theorem blanks_awake (a1 a2 a3 : Option Addr) (n1 n2 n3 c1 c2 c3 : Nat) (w : World) (h : 60 < n1 ∨ 60 < n2 ∨ 20 < n3) (g1 : n1 ≤ 9223372036854775807) (g2 : n2 ≤ 9223372036854775807) (g3 : n3 ≤ 9223372036854775807) :
    Calls Try.prog 5 #[.slice a1 n1 c1, .slice a2 n2 c2, .slice a3 n3 c3] w fun e w' => e = .returned (.bool true) ∧ Below w.heap.size w w' := by
  by_cases h1 : 60 < n1
  · clear h
    go_enter Try.func5, Try.ntmps5
    go_wp2_with (go_at_call 9; refine (awake9 _).mono ?_; rintro e w' ⟨rfl, hb⟩)
    go_ret
    exact ⟨rfl, hb⟩
  · by_cases h2 : 60 < n2
    · clear h
      go_enter Try.func5, Try.ntmps5
      go_wp2_with (go_at_call 9; refine (awake9 _).mono ?_; rintro e w' ⟨rfl, hb⟩)
      go_ret
      exact ⟨rfl, hb⟩
    · have h3 : 20 < n3 := by omega
      clear h
      go_enter Try.func5, Try.ntmps5
      go_wp2_with (go_at_call 9; refine (awake9 _).mono ?_; rintro e w' ⟨rfl, hb⟩)
      go_ret
      exact ⟨rfl, hb⟩

theorem gaps_snoc (bs : List Nat) (k : Nat) (h : k < bs.length) : (bs.take (k + 1)).flatMap gat = (bs.take k).flatMap gat ++ gat (bs.getD k 0) := by
  rw [List.take_succ_eq_append_getElem h, List.flatMap_append]
  simp [List.getD, h]
theorem gap_snoc (bs : List Nat) (k : Nat) (h : k < bs.length) : gapL (bs.take (k + 1)) = gapL (bs.take k) ++ gat (bs.getD k 0) := by
  unfold gapL; rw [gaps_snoc bs k h]; rfl
theorem gap_le (bs : List Nat) (k : Nat) : (gapL (bs.take k)).length ≤ 1 + k * 9 := by
  unfold gapL
  have := gaps_le (bs.take k)
  have h2 : (bs.take k).length ≤ k := by rw [List.length_take]; omega
  rw [List.length_cons]
  have h3 : (bs.take k).length * 9 ≤ k * 9 := Nat.mul_le_mul_right 9 h2
  omega

set_option maxRecDepth 100000 in
set_option maxHeartbeats 4000000 in
theorem blanks_law (a1 a2 a3 : Option Addr) (n1 n2 n3 c1 c2 c3 : Nat) (b1 b2 b3 : List Nat) (w : World) (hr1 : RowY 0 w.heap.size w a1 n1 b1) (hr2 : RowY 0 w.heap.size w a2 n2 b2) (hr3 : RowY 0 w.heap.size w a3 n3 b3)
    (hb1 : ∀ i, i < n1 → b1.getD i 0 ≤ 255) (hb2 : ∀ i, i < n2 → b2.getD i 0 ≤ 255) (hb3 : ∀ i, i < n3 → b3.getD i 0 ≤ 255) (g1 : n1 ≤ 9223372036854775807) (g2 : n2 ≤ 9223372036854775807) (g3 : n3 ≤ 9223372036854775807) :
    Calls Try.prog 5 #[.slice a1 n1 c1, .slice a2 n2 c2, .slice a3 n3 c3] w fun e w' => e = .returned (.bool true) ∧ Below w.heap.size w w' := by
  by_cases hbig : 60 < n1 ∨ 60 < n2 ∨ 20 < n3
  · exact blanks_awake a1 a2 a3 n1 n2 n3 c1 c2 c3 w hbig g1 g2 g3
  have l1 : n1 ≤ 60 := by omega
  have l2 : n2 ≤ 60 := by omega
  have l3 : n3 ≤ 20 := by omega
  have HW1 := Lib.hid (fun w' (h : Below w.heap.size w w') => words_any a1 n1 c1 b1 w' ((hr1.below h (Nat.le_refl _)).mono (Nat.le_refl _) h.size) hb1 g1)
  have HW2 := Lib.hid (fun w' (h : Below w.heap.size w w') => words_any a2 n2 c2 b2 w' ((hr2.below h (Nat.le_refl _)).mono (Nat.le_refl _) h.size) hb2 g2)
  have HR3 := Lib.hid hr3
  have HB3 := Lib.hid hb3
  have HL3 := Lib.hid hr3.1
  obtain ⟨A, hA⟩ : ∃ A, textL b1 = A := ⟨_, rfl⟩
  obtain ⟨B, hB⟩ : ∃ B, textL b2 = B := ⟨_, rfl⟩
  have zA : A.length ≤ 2000 := by rw [← hA]; exact textL_len _
  have zB : B.length ≤ 2000 := by rw [← hB]; exact textL_len _
  have HA := Lib.hid hA
  have HB := Lib.hid hB
  clear hr1 hr2 hr3 hb1 hb2 hb3 hbig hA hB g1 g2 g3
  go_enter Try.func5, Try.ntmps5
  go_wp2_with fail
  refine (HW1.out _ (Below.refl _ _)).mono ?_
  rintro e w1 ⟨rfl, hbw1⟩
  rw [HA.out]
  go_wp2_with fail
  refine (HW2.out _ hbw1).mono ?_
  rintro e w2 ⟨rfl, hbw2'⟩
  rw [HB.out]
  have HBW2 := Lib.hid (hbw1.trans (hbw2'.mono hbw1.size))
  clear hbw1 hbw2' HW1 HW2
  go_wp2_with fail
  go_loopg [9, 10] (n3) (fun gn s i wr => ∃ k : Nat, gn + k ≤ n3 ∧ n3 ≤ gn + k ∧ i = .int .i64 (k : Int) ∧ s = .string (strB (gapL (b3.take k))) ∧ Hid (Below w.heap.size w wr))
  case atStart => exact ⟨0, by omega, by omega, rfl, rfl, HBW2.out⟩
  case round =>
    obtain ⟨k, hk1, hk2, rfl, rfl, HBR⟩ := hrel
    by_cases hlt : k < n3
    · obtain ⟨hl, hc | ⟨b, off, rfl, _, hbb, hcell⟩⟩ := HR3.out
      · omega
      · have hbl : b < wr.heap.size := Nat.lt_of_lt_of_le hbb HBR.out.size
        have d1 := (HBR.out.cell (p := ⟨b, off + k, none⟩) hbb).trans (hcell k hlt)
        have hb255 := HB3.out k hlt
        obtain ⟨x, hx⟩ : ∃ x, b3.getD k 0 = x := ⟨_, rfl⟩
        have hsn := gap_snoc b3 k (by omega)
        have hgl := gap_le b3 k
        rw [hx] at d1 hb255 hsn
        obtain ⟨m, hm⟩ : ∃ m, x % 5 = m := ⟨_, rfl⟩
        have hm5 : m < 5 := by rw [← hm]; exact Nat.mod_lt _ (by omega)
        have em : (x : Int) % 5 = (m : Int) := by omega
        have em2 : (x : Int).tmod 5 = (m : Int) := by rw [Int.tmod_eq_emod_of_nonneg (by omega)]; exact em
        have hbx := Box.new wr 9 (gtab.map fun l => Value.string (strB l))
        have d2 : (wr.alloc (.cells #[.string ⟨#[32]⟩, .string ⟨#[10]⟩, .string ⟨#[9]⟩, .string ⟨#[45, 45, 32, 108, 101, 116, 32, 120, 10]⟩, .string ⟨#[45, 45, 10]⟩] 9)).cell? ⟨wr.heap.size, m, none⟩ = some (.string (strB (gat x))) := by
          refine (hbx.cell m).trans ?_
          rw [List.getElem?_map, List.getElem?_eq_getElem (show m < gtab.length from hm5)]
          unfold gat
          rw [hm, List.getD_eq_getElem?_getD, List.getElem?_eq_getElem (show m < gtab.length from hm5)]
          rfl
        have d3 : (wr.alloc (.cells #[.string ⟨#[32]⟩, .string ⟨#[10]⟩, .string ⟨#[9]⟩, .string ⟨#[45, 45, 32, 108, 101, 116, 32, 120, 10]⟩, .string ⟨#[45, 45, 10]⟩] 9)).cell? ⟨b, off + k, none⟩ = some (.int .u8 (x : Int)) := (World.cell?_of_block (Below.heap_alloc _ _ b hbl)).trans d1
        have HSN : Hid (strB (gapL (b3.take (k + 1))) = strB (gapL (b3.take k)) ++ strB (gat x)) := by show _ = _; rw [hsn, strB_app]
        have z1 : (strB (gapL (b3.take k))).size ≤ 2000 := by rw [strB_size]; omega
        have z2 : (strB (gat x)).size ≤ 10 := by rw [strB_size]; exact Nat.le_succ_of_le (gat_le x)
        have HBA := Lib.hid (HBR.out.alloc HBR.out.size (.cells #[.string ⟨#[32]⟩, .string ⟨#[10]⟩, .string ⟨#[9]⟩, .string ⟨#[45, 45, 32, 108, 101, 116, 32, 120, 10]⟩, .string ⟨#[45, 45, 10]⟩] 9))
        generalize strB (gapL (b3.take k)) = L at *
        generalize strB (gat x) = S at *
        have T3 : ∀ W, Sem.run Try.prog (Op.stringOp .add L S) W = .ok (.string (L ++ S)) W := fun W => run_string_add_sum W L S (by omega)
        clear hcell hx hsn hm em hbx hgl d1
        go_wp2_with fail
        go_roundg (n3 - (k + 1))
        case measure => omega
        case rel => exact ⟨k + 1, by omega, by omega, by go_num, by rw [HSN.out], HBA.out⟩
    · obtain rfl : k = n3 := by omega
      clear HBW2
      have e : b3.take k = b3 := List.take_of_length_le (by rw [HL3.out]; exact Nat.le_refl _)
      have hgl := gap_le b3 k
      rw [e] at hgl
      rw [e]
      clear e hlt
      obtain ⟨G, hG⟩ : ∃ G, gapL b3 = G := ⟨_, rfl⟩
      rw [hG] at hgl
      rw [hG]
      have HTWO := Lib.hid (lexL_two A B b3)
      rw [hG] at HTWO
      clear hG
      have zG : G.length ≤ 200 := by omega
      have hsA := strB_size A
      have hsB := strB_size B
      have hsG := strB_size G
      have T4 : ∀ W, Sem.run Try.prog (Op.stringOp .add (strB A) (strB G)) W = .ok (.string (strB (A ++ G))) W := fun W => by rw [run_string_add_sum W _ _ (by rw [strB_size, strB_size]; omega), strB_app]
      have T5 : ∀ W, Sem.run Try.prog (Op.stringOp .add (strB (A ++ G)) (strB B)) W = .ok (.string (strB (A ++ G ++ B))) W := fun W => by rw [run_string_add_sum W _ _ (by rw [strB_size, strB_size, List.length_append]; omega), strB_app]
      have zz : (A ++ G ++ B).length ≤ 65536 := by rw [List.length_append, List.length_append]; omega
      obtain ⟨Z, hZ⟩ : ∃ Z, A ++ G ++ B = Z := ⟨_, rfl⟩
      rw [hZ] at HTWO zz T5
      clear hZ
      obtain ⟨N, hN⟩ : ∃ N, A.length + G.length = N := ⟨_, rfl⟩
      rw [hN] at HTWO
      have hNi : (A.length : Int) + (G.length : Int) = (N : Int) := by omega
      have hN5 : N ≤ 5000 := by omega
      have HNN := Lib.hid hN
      clear hN
      have HZZ := Lib.hid zz
      clear zz
      go_wp2_with fail
      refine (t_lexB A wr (by omega)).mono ?_
      rintro e x1 ⟨v1, E1, A1, rfl, ho1, hx1⟩
      have HO1 := Lib.hid ho1
      have HX1 := Lib.hid hx1
      clear ho1 hx1
      go_wp2_with fail
      refine (t_lexB B x1 (by omega)).mono ?_
      rintro e x2 ⟨v2, E2, A2, rfl, ho2, hx2⟩
      have HO2 := Lib.hid ho2
      have HX2 := Lib.hid hx2
      clear ho2 hx2
      go_wp2_with fail
      refine (t_lexB Z x2 HZZ.out).mono ?_
      rintro e x3 ⟨v3, E3, A3, rfl, ho3, hx3⟩
      have HB3w : Hid (Below w.heap.size w x3) := ((HBR.out.trans (HX1.out.mono HBR.out.size)).trans (HX2.out.mono (Nat.le_trans HBR.out.size HX1.out.size))).trans (hx3.mono (Nat.le_trans (Nat.le_trans HBR.out.size HX1.out.size) HX2.out.size))
      have H12 := Lib.hid (HX2.out.trans (hx3.mono HX2.out.size))
      have HX3 := Lib.hid hx3
      clear hx3
      rcases Lx.cases (lexL A 0) with ⟨i, hA⟩ | ⟨tsA, hA⟩
      · obtain ⟨rfl, rfl, rfl⟩ := HO1.out.of_bad hA
        obtain ⟨rfl, rfl, rfl⟩ := ho3.of_bad (HTWO.out.1 i hA)
        have hii : ((i : Int) == (i : Int)) = true := by simp
        clear ho3
        go_wp2_with (first | (go_at_call 13; refine (num_any _ _).mono ?_; rintro e w' ⟨rfl, hw⟩; have hw := hw.symm; subst hw) | (go_at_call 9; refine (awake9 _).mono ?_; rintro e w' ⟨rfl, hb⟩))
        go_ret
        exact ⟨rfl, below_nxt HB3w.out hb (Nat.le_refl _)⟩
      · obtain ⟨⟨p1, q1, rfl, hq1, ht1⟩, rfl, rfl⟩ := HO1.out.of_ok hA
        rcases Lx.cases (lexL B 0) with ⟨j, hB⟩ | ⟨tsB, hB⟩
        · obtain ⟨rfl, rfl, rfl⟩ := HO2.out.of_bad hB
          have hz := HTWO.out.2 tsA hA
          rw [hB] at hz
          obtain ⟨rfl, rfl, rfl⟩ := ho3.of_bad (i := j + N) hz
          have hii : (((j + N : Nat) : Int) == (j : Int) + (N : Int)) = true := by simp
          obtain ⟨m, hm⟩ : ∃ m, j + N = m := ⟨_, rfl⟩
          rw [hm] at hii ⊢
          have hj := lexL_bad_le hB
          have HM := Lib.hid hm
          clear ho3 hz ht1 hm
          go_wp2_with (first | (go_at_call 13; refine (num_any _ _).mono ?_; rintro e w' ⟨rfl, hw⟩; have hw := hw.symm; subst hw) | (go_at_call 9; refine (awake9 _).mono ?_; rintro e w' ⟨rfl, hb⟩))
          go_ret
          exact ⟨rfl, below_nxt HB3w.out hb (Nat.le_refl _)⟩
        · obtain ⟨⟨p2, q2, rfl, hq2, ht2⟩, rfl, rfl⟩ := HO2.out.of_ok hB
          have hz := HTWO.out.2 tsA hA
          rw [hB] at hz
          obtain ⟨⟨p3, q3, rfl, hq3, ht3⟩, rfl, rfl⟩ := ho3.of_ok (ts := tsA ++ tsB.map (Tk.mv N)) hz
          have hfA := lexL_fit (by omega) hA
          have hfB := lexL_fit (by omega) hB
          have hlA := lexL_len hA
          have hlB := lexL_len hB
          have hlen : (tsA ++ tsB.map (Tk.mv N)).length = tsA.length + tsB.length := by rw [List.length_append, List.length_map]
          rw [hlen] at hq3 ht3 ⊢
          obtain ⟨nA, hnA⟩ : ∃ n, tsA.length = n := ⟨_, rfl⟩
          obtain ⟨nB, hnB⟩ : ∃ n, tsB.length = n := ⟨_, rfl⟩
          obtain ⟨nC, hnC⟩ : ∃ n, nA + nB = n := ⟨_, rfl⟩
          rw [hnA] at ht1 hq1 hlA
          rw [hnB] at ht2 hq2 hlB
          rw [hnA, hnB, hnC] at ht3 hq3
          rw [hnA, hnB, hnC]
          obtain ⟨p4, hp4, T6⟩ := run_head4 Try.tokElem Try.tokSize p3 nC q3 nA (by omega) hq3
          have ht1' := (ht1.below H12.out (Nat.le_refl _)).mono H12.out.size
          have ht2' := (ht2.below HX3.out (Nat.le_refl _)).mono HX3.out.size
          have hsame := same_any p4 p1 nA q3 q1 tsA x3 (ht3.head hnA hp4) ht1' hfA (by omega)
          have HSAME := Lib.hid hsame
          have HT2 := Lib.hid ht2'
          have HT3 := Lib.hid ht3
          have HFB := Lib.hid hfB
          have HNA := Lib.hid hnA
          have HNB := Lib.hid hnB
          have HNC := Lib.hid hnC
          have hne : ((nC : Int) != (nA : Int) + (nB : Int)) = false := by simp; omega
          clear ht1 ht2 ht3 ht1' ht2' hsame ho3 hz hfA hfB hnA hnB hnC hlen hp4 hA hB
          go_wp2_with (first | (go_at_call 13; refine (num_any _ _).mono ?_; rintro e w' ⟨rfl, hw⟩; have hw := hw.symm; subst hw) | (go_at_call 12; refine HSAME.out.mono ?_; rintro e x4 ⟨rfl, hb4⟩; have HB4 := Lib.hid hb4; clear hb4))
          go_loopg [21] (nB) (fun gn i wx => ∃ r : Nat, gn + r ≤ nB ∧ nB ≤ gn + r ∧ i = .int .i64 (r : Int) ∧ Hid (Below x4.heap.size x4 wx))
          case atStart => exact ⟨0, by omega, by omega, rfl, Below.refl _ _⟩
          case round =>
            obtain ⟨r, hr1, hr2, rfl, HBX⟩ := hrel
            by_cases hrl : r < nB
            · obtain ⟨b5, o5, rfl, hb5, hc5⟩ := HT2.out.cell (by omega)
              obtain ⟨b6, o6, rfl, hb6, hc6⟩ := HT3.out.cell (by have := HNC.out; omega)
              obtain ⟨t, ht⟩ : ∃ t, tsB[r]? = some t := ⟨_, List.getElem?_eq_getElem (by rw [HNB.out]; exact hrl)⟩
              have hbx := (HB4.out.trans (HBX.out.mono HB4.out.size))
              have s5 : b5 < wr.heap.size := by have := hbx.size; omega
              have s6 : b6 < wr.heap.size := by have := hbx.size; omega
              have hz : (tsA ++ tsB.map (Tk.mv N))[nA + r]? = some (t.mv N) := by
                rw [List.getElem?_append_right (by rw [HNA.out]; omega), HNA.out, show nA + r - nA = r by omega, List.getElem?_map, ht]; rfl
              obtain ⟨m, hm⟩ : ∃ m, nA + r = m := ⟨_, rfl⟩
              rw [hm] at hz
              have em : (nA : Int) + (r : Int) = (m : Int) := by omega
              have hmC : m < nC := by have := HNC.out; omega
              obtain ⟨y0, y1, y2, y3⟩ := hc5 r t ht
              obtain ⟨z0, z1, z2, z3⟩ := hc6 m (t.mv N) hz
              have hfit := HFB.out t (List.mem_of_getElem? ht)
              have y0 := (hbx.cell (p := ⟨b5, o5 + r * 4, none⟩) hb5).trans y0
              have y1 := (hbx.cell (p := ⟨b5, o5 + r * 4 + 1, none⟩) hb5).trans y1
              have y2 := (hbx.cell (p := ⟨b5, o5 + r * 4 + 2, none⟩) hb5).trans y2
              have y3 := (hbx.cell (p := ⟨b5, o5 + r * 4 + 3, none⟩) hb5).trans y3
              have z0 : wr.cell? ⟨b6, o6 + m * 4, none⟩ = some (.int .i64 (t.k : Int)) := (hbx.cell (p := ⟨b6, o6 + m * 4, none⟩) hb6).trans z0
              have z1 : wr.cell? ⟨b6, o6 + m * 4 + 1, none⟩ = some (.int .i64 ((t.p : Int) + (N : Int))) := ((hbx.cell (p := ⟨b6, o6 + m * 4 + 1, none⟩) hb6).trans z1).trans (by simp [Tk.mv])
              have z2 : wr.cell? ⟨b6, o6 + m * 4 + 2, none⟩ = some (.string (strB t.s)) := (hbx.cell (p := ⟨b6, o6 + m * 4 + 2, none⟩) hb6).trans z2
              have z3 : wr.cell? ⟨b6, o6 + m * 4 + 3, none⟩ = some (.int .i64 (t.n : Int)) := (hbx.cell (p := ⟨b6, o6 + m * 4 + 3, none⟩) hb6).trans z3
              have hE : ∀ W' : World, (binOp .neq 38 (.agg #[.int .i64 (t.k : Int), .int .i64 ((t.p : Int) + (N : Int)), .string (strB t.s), .int .i64 (t.n : Int)]) (.agg #[.int .i64 (t.k : Int), .int .i64 ((t.p : Int) + (N : Int)), .string (strB t.s), .int .i64 (t.n : Int)])).run Try.prog W' = .ok (.bool false) W' := fun W' =>
                tok_ne (strB t.s) W' (by have := hfit.1; unfold fits; omega) (by have := hfit.2.1; unfold fits; omega) (by have := hfit.2.2.2; unfold fits; omega) (by rw [strB_size]; exact hfit.2.2.1)
              have hGn := tok_guard_ne
              have hpN := hfit.2.1
              have T7 : ∀ W, Sem.run Try.prog (Instr.indexAt 23 (.slice (some ⟨b6, o6, none⟩) nC q3) (.int .i64 (m : Int))) W = .ok (.pointer (some ⟨b6, o6 + m * 4, none⟩)) W := fun W => by go_simp
              have HBY := Lib.hid (HBX.out.alloc HBX.out.size (.cells #[.int .i64 (t.k : Int), .int .i64 ((t.p : Int) + (N : Int)), .string (strB t.s), .int .i64 (t.n : Int)] 38))
              clear hc5 hc6 hz hfit hm hbx ht
              go_wp2_with fail
              have bz := Box.new wr 38 [.int .i64 (t.k : Int), .int .i64 ((t.p : Int) + (N : Int)), .string (strB t.s), .int .i64 (t.n : Int)]
              simp only [List.toArray] at bz
              have z0' := (World.cell?_of_block (a := ⟨b6, o6 + m * 4, none⟩) (Below.heap_alloc wr (.cells #[.int .i64 (t.k : Int), .int .i64 ((t.p : Int) + (N : Int)), .string (strB t.s), .int .i64 (t.n : Int)] 38) b6 s6)).trans z0
              have z1' := (World.cell?_of_block (a := ⟨b6, o6 + m * 4 + 1, none⟩) (Below.heap_alloc wr (.cells #[.int .i64 (t.k : Int), .int .i64 ((t.p : Int) + (N : Int)), .string (strB t.s), .int .i64 (t.n : Int)] 38) b6 s6)).trans z1
              have z2' := (World.cell?_of_block (a := ⟨b6, o6 + m * 4 + 2, none⟩) (Below.heap_alloc wr (.cells #[.int .i64 (t.k : Int), .int .i64 ((t.p : Int) + (N : Int)), .string (strB t.s), .int .i64 (t.n : Int)] 38) b6 s6)).trans z2
              have z3' := (World.cell?_of_block (a := ⟨b6, o6 + m * 4 + 3, none⟩) (Below.heap_alloc wr (.cells #[.int .i64 (t.k : Int), .int .i64 ((t.p : Int) + (N : Int)), .string (strB t.s), .int .i64 (t.n : Int)] 38) b6 s6)).trans z3
              generalize hwt : wr.alloc (.cells #[.int .i64 (t.k : Int), .int .i64 ((t.p : Int) + (N : Int)), .string (strB t.s), .int .i64 (t.n : Int)] 38) = wt at *
              obtain ⟨_, _, _, _, _, _, _, _⟩ := Box.fourb bz
              have szt := bz.lt
              have s6t : b6 < wt.heap.size := by omega
              clear hwt y0 y1 y2 y3 z0 z1 z2 z3 bz
              go_quiet (fail)
              go_wp2_with fail
              go_roundg (nB - (r + 1))
              case measure => omega
              case rel => exact ⟨r + 1, by omega, by omega, by go_num, below_drewN HBY.out _⟩
            · obtain rfl : r = nB := by omega
              go_wp2_with (go_at_call 9; refine (awake9 _).mono ?_; rintro e w' ⟨rfl, hb⟩)
              go_ret
              exact ⟨rfl, below_nxt (HB3w.out.trans ((HB4.out.trans (HBX.out.mono HB4.out.size)).mono HB3w.out.size)) hb (Nat.le_refl _)⟩

end Go.Proofs.Ytdhkcbkeehameaa
