/- The walk of the law PartMade: it returns true and changes nothing that was there. -/
import Derived.Test.YtodkdjgpmfegcaaLawall3
namespace Go.Proofs.Ytodkdjgpmfegcaa
open Go.RowKit
set_option linter.unusedVariables false

theorem RowP.alloc {lo hi : Nat} {w : World} {a : Option Addr} {n : Nat} {ps : List (Int × Int)} (h : RowP lo hi w a n ps) (hh : hi ≤ w.heap.size) (o : Obj) : RowP lo hi (w.alloc o) a n ps := h.agree fun k _ h2 => Below.heap_alloc w o k (by omega)
theorem owns_made {w : World} (base : Nat) (hb : base ≤ w.heap.size) : (w.alloc (.cells #[] 35)).ownsRow base 35 2 (.slice (some ⟨w.heap.size, 0, none⟩) 0 0) 0 (cellsP []) := by
  exact ⟨rfl, .inr ⟨w.heap.size, 0, #[], rfl, hb, heap_alloc_new w _, Nat.le_refl _, by decide, rfl, rfl⟩⟩

set_option maxRecDepth 100000 in
set_option maxHeartbeats 2000000 in
theorem made_law (a b : Option Addr) (la ca lb cb : Nat) (xa xb : List Nat) (n x y : Nat) (w : World) (hn : n ≤ 255) (hx : x ≤ 255) (hy : y ≤ 255) (ha : RowY 0 w.heap.size w a la xa) (hb : RowY 0 w.heap.size w b lb xb)
    (ba : ∀ i, i < la → xa.getD i 0 ≤ 255) (bb : ∀ i, i < lb → xb.getD i 0 ≤ 255) :
    Calls Try.prog 4 #[.int .u8 (n : Int), .slice a la ca, .slice b lb cb, .int .u8 (x : Int), .int .u8 (y : Int)] w fun e w' => e = .returned (.bool true) ∧ Below w.heap.size w w' := by
  have hA := Lib.hid ha
  have hB := Lib.hid hb
  have hbA := Lib.hid ba
  have hbB := Lib.hid bb
  clear ha hb ba bb
  obtain ⟨k, hk⟩ : ∃ k : Nat, (n : Int) % 40 = (k : Int) := ⟨n % 40, by omega⟩
  have hk40 : k < 40 := by omega
  by_cases h1 : 80 < la
  · go_enter Try.func4, Try.ntmps4
    go_wp2_with (go_at_call 9; refine (awake_any _).mono ?_; rintro e w' ⟨rfl, hb⟩)
    go_ret
    exact ⟨rfl, hb⟩
  · by_cases h2 : 80 < lb
    · go_enter Try.func4, Try.ntmps4
      go_wp2_with (go_at_call 9; refine (awake_any _).mono ?_; rintro e w' ⟨rfl, hb⟩)
      go_ret
      exact ⟨rfl, hb⟩
    · obtain ⟨i0, hi0, hz0, hz1, hz2⟩ := info_parts Try.info35
      go_enter Try.func4, Try.ntmps4
      go_wp2_with fail
      refine (pairs_m _ _ _ xa k _ hA.out hbA.out (Nat.le_refl _) (by omega) (by omega)).mono ?_
      rintro e w1 ⟨a1, m1, c1, rfl, hm1, hr1, hnil1, hb1⟩
      have HN1 := Lib.hid hnil1
      have hs1 := hb1.size
      clear hnil1
      go_wp2_with fail
      refine (pairs_m _ _ _ xb k _ (hB.out.below hb1 (Nat.le_refl _)) hbB.out hs1 (by omega) (by omega)).mono ?_
      rintro e w2 ⟨a2, m2, c2, rfl, hm2, hr2, hnil2, hb2⟩
      have HN2 := Lib.hid hnil2
      have hs2 := hb2.size
      have hr1b := hr1.below hb2 (Nat.le_refl _)
      have k2 := hb1.trans (hb2.mono hs1)
      clear hnil2 hr1 hb1 hb2
      go_wp2_with fail
      refine (of_nat k _ _ _ (prs xa k) _ hr1b hs2 (by omega) (prs_fits (by omega)) (by omega)).mono ?_
      rintro e w3 ⟨a3, c3, rfl, hr3, hb3⟩
      have hs3 := hb3.size
      have hl3 := hr1b.below hb3 hs2
      have hm3 := hr2.below hb3 (Nat.le_refl _)
      have k3 := k2.trans (hb3.mono (by omega))
      clear hr1b hr2 hb3 k2
      have D0 := (owns_made (w := w3) w3.heap.size (Nat.le_refl _))
      have HD0 := Lib.hid D0
      have kB : Below w3.heap.size w3 (w3.alloc (.cells #[] 35)) := (Below.refl _ _).alloc (Nat.le_refl _) _
      have HKB := Lib.hid kB
      have HNEW1 : Hid (∀ ad, a1 = some ad → ∀ j u, (cellsP (prs xa k))[j]? = some u → (w3.alloc (.cells #[] 35)).cell? (ad.add j) = some u) := fun ad h => RowP.news (h ▸ hl3.below kB (by omega))
      clear D0 kB
      go_wp2_with (at_builtin; refine wpList_append_any rfl (.tmp 40) (.tmp 41) 32 rfl w3.heap.size 35 i0 (.agg #[.int .i64 0, .int .i64 0]) 2 16 Try.underlying32 hi0 hz0 hz1 hz2 rfl (by decide) _ 0 (cellsP []) rfl HD0.out a1 m1 c1 (cellsP (prs xa k)) rfl HN1.out ?d1 HNEW1.out (cellsP_one _) ?d4 ?d5 ?d6 ?_)
      case d1 => rw [cellsP_length, hl3.1]
      case d4 => unfold maxLen; omega
      case d5 => omega
      case d6 => simp
      intro v7 w7 hown7 hgr7
      have hb7 : Below w3.heap.size w3 w7 := HKB.out.grown hgr7 (by simp) (by rintro j hj; cases hj; exact Nat.le_refl _)
      have hs7 := hb7.size
      have hr2 := hm3.below hb7 (by omega)
      have HNEW2 : Hid (∀ ad, a2 = some ad → ∀ j u, (cellsP (prs xb k))[j]? = some u → w7.cell? (ad.add j) = some u) := fun ad h => RowP.news (h ▸ hr2)
      have HOWN7 := Lib.hid hown7
      clear hgr7 hown7 HD0 HNEW1 HKB
      go_wp2_with (at_builtin; refine wpList_append_any rfl (.tmp 42) (.tmp 43) 32 rfl w3.heap.size 35 i0 (.agg #[.int .i64 0, .int .i64 0]) 2 16 Try.underlying32 hi0 hz0 hz1 hz2 rfl (by decide) v7 m1 _ rfl HOWN7.out a2 m2 c2 (cellsP (prs xb k)) rfl HN2.out ?d1 HNEW2.out (cellsP_one _) ?d4 ?d5 ?d6 ?_)
      case d1 => rw [cellsP_length, hr2.1]
      case d4 => unfold maxLen; omega
      case d5 => omega
      case d6 => exact hs7
      intro v8 w8 hown8 hgr8
      have hb8 : Below w3.heap.size w3 w8 := hb7.grown hgr8 hs7 (fun j hj => (HOWN7.out.lt j hj).1)
      have e8 : cellsP [] ++ (cellsP (prs xa k) ++ cellsP (prs xb k)) = cellsP (prs xa k ++ prs xb k) := by rw [cellsP_append]; rfl
      rw [e8] at hown8
      obtain ⟨a8, c8, rfl, hr8, _⟩ := RowP.owned hown8 (by rw [List.length_append, hl3.1, hm3.1])
      have hs8 := hb8.size
      have hl8 := hl3.below hb8 (by omega)
      have hp8 := hr3.below hb8 (Nat.le_refl _)
      have k8 := k3.trans (hb8.mono (by omega))
      clear e8 hgr8 hown8 HOWN7 HNEW2 hb7 hb8 hr2 hm3 hl3 hr3 k3 HN1 HN2 hs7
      go_wp2_with fail
      refine (of_nat k _ _ _ (prs xa k ++ prs xb k) _ hr8 (Nat.le_refl _) (by omega) (fun q hq => by rcases List.mem_append.1 hq with h | h; exact prs_fits (by omega) q h; exact prs_fits (by omega) q h) (by omega)).mono ?_
      rintro e w9 ⟨a9, c9, rfl, hr9, hb9⟩
      have hs9 := hb9.size
      have hl9 := hl8.below hb9 (by omega)
      have hp9 := hp8.below hb9 (by omega)
      have k9 := k8.trans (hb9.mono (by omega))
      clear hl8 hp8 hr8 hb9 k8
      go_wp2_with fail
      refine (rnew_any (k : Int) w9).mono ?_
      rw [cutN_nat (by omega)]
      rintro e w10 ⟨a10, c10, rfl, hr10, hnil10, hb10⟩
      have hs10 := hb10.size
      have hl10 := hl9.below hb10 (by omega)
      have hp10 := hp9.below hb10 (by omega)
      have hq10 := hr9.below hb10 (Nat.le_refl _)
      have k10 := k9.trans (hb10.mono (by omega))
      have HNIL := Lib.hid hnil10
      have HP := Lib.hid hp10
      have HQ := Lib.hid hq10
      have HR := Lib.hid (hr10.mono (lo' := 0) (hi' := w10.heap.size) (by omega) (Nat.le_refl _))
      have HL := Lib.hid hl10
      have HD := Lib.hid k10
      have hz9 : w2.heap.size ≤ w10.heap.size := by omega
      have hz8 : w3.heap.size ≤ w10.heap.size := by omega
      have hz7 : w9.heap.size ≤ w10.heap.size := by omega
      have HLN : Hid ((prs xa k).length = m1) := hl10.1
      clear hnil10 hp10 hq10 hr10 hl10 k10 hl9 hp9 hr9 hb10 k9
      go_wp2_with fail
      go_loopw [16, 17] (fun v i wr => ∃ (j : Nat) (ar : Option Addr) (cr : Nat), j ≤ m1 ∧ i = .int .i64 j ∧ v = .slice ar k cr ∧ Hid (RowN 0 wr.heap.size wr ar k (ofL k ((prs xa k).take j))) ∧ Hid (ar = none → cr = 0) ∧ Below w10.heap.size w10 wr) (fun _ i _ => m1 - (intOf i).toNat)
      case atStart => exact ⟨0, a10, c10, Nat.zero_le _, rfl, rfl, by rw [List.take_zero, ofL_nil]; exact HR, HNIL, Below.refl _ _⟩
      case round =>
        obtain ⟨j, ar, cr, hj, rfl, rfl, HRr, HNr, hbr⟩ := hrel
        by_cases hlt : j < m1
        · obtain ⟨bp, op, rfl, _, hbp, hc⟩ := HL.out.at_ hlt
          have hck := hc j hlt
          have hT := ofL_take_succ k (prs xa k) (k := j) (by rw [HLN.out]; exact hlt)
          obtain ⟨q, hq⟩ : ∃ q, q = (prs xa k).getD j (0, 0) := ⟨_, rfl⟩
          rw [← hq] at hck hT
          obtain ⟨u, v⟩ := q
          dsimp only at hck hT
          have hsr := hbr.size
          have K : ∀ w', Below w10.heap.size w10 w' → (Below w10.heap.size w10 w' ∧ w'.cell? ⟨bp, op + j * 2, none⟩ = some (.int .i64 u) ∧ w'.cell? ⟨bp, op + j * 2 + 1, none⟩ = some (.int .i64 v)) := fun w' h =>
            ⟨h, (h.cell (p := ⟨bp, op + j * 2, none⟩) (by show bp < _; omega)).trans hck.1, (h.cell (p := ⟨bp, op + j * 2 + 1, none⟩) (by show bp < _; omega)).trans hck.2⟩
          have HC : Hid (∀ w', wr.drew = w' → Calls Try.prog 18 #[.slice ar k cr, .int .i64 u, .int .i64 v] w' fun e w'' => ∃ a' c', e = .returned (.slice a' k c') ∧ Hid (RowN 0 w''.heap.size w'' a' k (ofL k ((prs xa k).take (j + 1)))) ∧ Hid (a' = none → c' = 0) ∧ Below w10.heap.size w10 w'') := by
            rintro w' rfl
            refine (runite_any ar k cr (ofL k ((prs xa k).take j)) u v wr.drew HRr.out (Nat.le_refl _) (by omega) HNr.out).mono ?_
            rintro e w'' ⟨a', c', h1, h2, h3, h4⟩
            exact ⟨a', c', h1, by rw [hT]; exact h2.mono (Nat.zero_le _) (Nat.le_refl _), h3, hbr.drew.trans (h4.mono hsr)⟩
          have HK := Lib.hid K
          have HBR := Lib.hid hbr
          have hj4 : (0 : Int) ≤ (j : Int) := by omega
          have hj5 : (j : Int) < m1 := by omega
          have g := (HK.out _ HBR.out).2
          have g1 := g.1
          have g2 := g.2
          clear K hck hq hT hc hbr g
          go_wp2_with fail
          go_region_held3 (fun w' => Below w10.heap.size w10 w' ∧ w'.cell? ⟨bp, op + j * 2, none⟩ = some (.int .i64 u) ∧ w'.cell? ⟨bp, op + j * 2 + 1, none⟩ = some (.int .i64 v))
            (first
              | exact HK.out _ HBR.out.drew
              | exact HK.out _ hbz)
            ((go_at_call 18; (with_reducible refine (HC.out _ rfl).mono ?_); rintro e wz ⟨az, cz, rfl, hrz, hnz, hbz⟩))
          clear g1 g2
          go_wp2_with fail
          go_roundw
          case rel => exact ⟨j + 1, az, cz, by omega, by go_num, rfl, hrz, hnz, hbz⟩
          case measure => simp [intOf]; omega
        · obtain rfl : j = m1 := by omega
          have HRr2 : Hid (RowN 0 wr.heap.size wr ar k (ofL k (prs xa k))) := by
            rw [List.take_of_length_le (by rw [HLN.out]; exact Nat.le_refl _)] at HRr; exact HRr
          have hp := HP.out.below hbr (by omega)
          have hq := HQ.out.below hbr (by omega)
          have hr := HRr2.out
          have hsr := hbr.size
          have kD := HD.out.trans (hbr.mono HD.out.size)
          have hle : leB (ofL k (prs xa k)) (ofL k (prs xa k ++ prs xb k)) = true := le_of_of fun q hq => List.mem_append_left _ hq
          have hcl := cls_le (good_of k (prs xa k)) (good_of k (prs xa k ++ prs xb k)) hle
          have gp := good_of k (prs xa k)
          have mp := mayB_good gp (by rw [ofL_length]; omega)
          have mq := mayB_good (good_of k (prs xa k ++ prs xb k)) (by rw [ofL_length]; omega)
          clear HRr HRr2 HP HQ HR hbr HNr
          generalize ofL k (prs xa k) = p at *
          generalize ofL k (prs xa k ++ prs xb k) = q at *
          have hkm : k ≤ 9223372036854775807 := by omega
          obtain ⟨s, hs⟩ : ∃ v, sameB p x y = v := ⟨_, rfl⟩
          obtain ⟨cp, hcp⟩ : ∃ v, clsN p = v := ⟨_, rfl⟩
          obtain ⟨cq, hcq⟩ : ∃ v, clsN q = v := ⟨_, rfl⟩
          rw [hcp, hcq] at hcl
          have HMP := Lib.hid (lift (w6 := wr) fun w' h => may_b a3 k c3 _ w' (hp.ints.below h (by omega)) hkm true mp)
          have HMQ := Lib.hid (lift (w6 := wr) fun w' h => may_b a9 k c9 _ w' (hq.ints.below h (by omega)) hkm true mq)
          have HI := Lib.hid (lift (w6 := wr) fun w' h => ints_b a3 ar k k c3 cr p p w' (hp.below h (by omega)) (hr.below h (by omega)) hkm true (by simp))
          have HLE := Lib.hid (lift (w6 := wr) fun w' h => le_b a3 a9 k c3 k c9 p q w' (hp.below h (by omega)) (hq.below h (by omega)) gp hkm true hle)
          have HCP := Lib.hid (lift (w6 := wr) fun w' h => cls_b a3 k c3 p w' (hp.below h (by omega)) hkm cp hcp)
          have HCQ := Lib.hid (lift (w6 := wr) fun w' h => cls_b a9 k c9 q w' (hq.below h (by omega)) hkm cq hcq)
          have HS := Lib.hid (lift (w6 := wr) fun w' h => same_b a3 k c3 p x y w' (hp.below h (by omega)) hkm s hs)
          have HRS := Lib.hid (lift (w6 := wr) fun w' h => rsame_b a3 k c3 p x y w' (hp.below h (by omega)) hkm s hs)
          have HAW := Lib.hid (lift (w6 := wr) fun w' _ => awake_any w')
          have HDD := Lib.hid kD
          have HB : Below wr.heap.size wr wr := Below.refl _ _
          clear hs hcp hcq hp hq hr gp mp mq hle kD
          go_wp2_with (first
            | (go_at_call 10; (with_reducible refine (HMP.out _ HB).mono ?_); clear HB; rintro e wz ⟨rfl, HB⟩)
            | (go_at_call 10; (with_reducible refine (HMQ.out _ HB).mono ?_); clear HB; rintro e wz ⟨rfl, HB⟩)
            | (go_at_call 12; (with_reducible refine (HI.out _ HB).mono ?_); clear HB; rintro e wz ⟨rfl, HB⟩)
            | (go_at_call 21; (with_reducible refine (HLE.out _ HB).mono ?_); clear HB; rintro e wz ⟨rfl, HB⟩)
            | (go_at_call 19; (with_reducible refine (HCP.out _ HB).mono ?_); clear HB; rintro e wz ⟨rfl, HB⟩)
            | (go_at_call 19; (with_reducible refine (HCQ.out _ HB).mono ?_); clear HB; rintro e wz ⟨rfl, HB⟩)
            | (go_at_call 15; (with_reducible refine (HS.out _ HB).mono ?_); clear HB; rintro e wz ⟨rfl, HB⟩)
            | (go_at_call 16; (with_reducible refine (HRS.out _ HB).mono ?_); clear HB; rintro e wz ⟨rfl, HB⟩)
            | (go_at_call 9; (with_reducible refine (HAW.out _ HB).mono ?_); clear HB; rintro e wz ⟨rfl, HB⟩))
          go_ret
          exact ⟨rfl, HDD.out.trans (HB.mono HDD.out.size)⟩

end Go.Proofs.Ytodkdjgpmfegcaa
