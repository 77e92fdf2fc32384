/- The walk of the law PickAll: it returns true and changes nothing that was there. -/
import Derived.Test.YteedkkimcfddfaaDoorSame
import Derived.Deep.RegionWith
import Derived.Deep.RegionHeld3
namespace Go.Proofs.YteedkkimcfddfaaDoor
open Go.RowKit

theorem below_next {B : Nat} {w w' w'' : World} (h : Below B w w') (k : Below w'.heap.size w' w'') (hB : B ≤ w.heap.size := by omega) : Below B w w'' := h.trans (k.mono (Nat.le_trans hB h.size))

set_option maxRecDepth 100000 in
set_option maxHeartbeats 1000000 in
theorem all_any (a b : Option Addr) (la ca lb cb : Nat) (xs : List Int) (en : List Bool) (p l : Int) (w : World) (hx : Row 0 w.heap.size w a la xs) (hy : RowB 0 w.heap.size w b lb en) (hT : Tab w) :
    Calls Tryd.prog 3 #[.agg #[.slice a la ca, .int .i64 p, .int .i64 l], .slice b lb cb] w fun e w' => e = .returned (.bool true) ∧ Below w.heap.size w w' := by
  by_cases h1 : 100 < la
  · go_enter Tryd.func3, Tryd.ntmps3
    go_wp2_with (go_at_call 7; refine (awake_any _ (hT.below (B := w.heap.size) ((Below.refl _ _).alloc (Nat.le_refl _) _) hT.lt)).mono ?_; rintro e w' ⟨rfl, hb⟩)
    go_ret
    exact ⟨rfl, ((Below.refl _ _).alloc (Nat.le_refl _) _).trans (hb.mono (by simp))⟩
  · by_cases h2 : 100 < lb
    · go_enter Tryd.func3, Tryd.ntmps3
      go_wp2_with (go_at_call 7; refine (awake_any _ (hT.below (B := w.heap.size) ((Below.refl _ _).alloc (Nat.le_refl _) _) hT.lt)).mono ?_; rintro e w' ⟨rfl, hb⟩)
      go_ret
      exact ⟨rfl, ((Below.refl _ _).alloc (Nat.le_refl _) _).trans (hb.mono (by simp))⟩
    · have k0 : Below w.heap.size w (w.alloc (.cells #[.slice a la ca, .int .i64 p, .int .i64 l] 24)) := by go_grown
      have b0 := Box.new w 24 [.slice a la ca, .int .i64 p, .int .i64 l]
      have HT := Lib.hid hT
      obtain ⟨ni, hni⟩ : ∃ ni, nextI xs p l en = ni := ⟨_, rfl⟩
      obtain ⟨na, hna⟩ : ∃ na, nextAt xs p en = na := ⟨_, rfl⟩
      obtain ⟨nl, hnl⟩ : ∃ nl, nextLast xs p l en = nl := ⟨_, rfl⟩
      have HN := Lib.hid (And.intro hni (And.intro hna hnl))
      clear hT hni hna hnl
      go_enter Tryd.func3, Tryd.ntmps3
      go_wp2_with fail
      refine (Next_any _ _ _ _ _ _ xs en _ _ _ (hx.below k0 (Nat.le_refl _)) (by simp) (by omega) (hy.below k0 (Nat.le_refl _)) (by simp) (by omega) (HT.out.below k0 HT.out.lt)).mono ?_
      rw [HN.out.1, HN.out.2.1, HN.out.2.2]
      rintro e w1 ⟨a1, c1, rfl, hr1, hb1⟩
      have s1 := hb1.size
      rw [World.size_alloc] at s1
      have k1 := k0.trans (hb1.mono (by simp))
      have B1 := b0.below hb1
      have s01 : w.heap.size < w1.heap.size := by omega
      obtain ⟨_, _, _, _, _, _⟩ := B1.three
      go_wp2_with fail
      have k1' := k1.alloc (by omega) (.cells #[.slice a1 la c1, .int .i64 na, .int .i64 nl] 24)
      have b6 := Box.new w1 24 [.slice a1 la c1, .int .i64 na, .int .i64 nl]
      refine (pick_any _ _ _ _ _ _ xs en _ _ _ (hx.below k1' (Nat.le_refl _)) (by simp; omega) (by omega) (hy.below k1' (Nat.le_refl _)) (by simp; omega) (by omega)).mono ?_
      rw [HN.out.1, HN.out.2.1, HN.out.2.2]
      rintro e w2 ⟨rfl, hb2⟩
      have s2 := hb2.size
      rw [World.size_alloc] at s2
      have s02 : w.heap.size < w2.heap.size := by omega
      have s12 : w1.heap.size < w2.heap.size := by omega
      have k2 := k1'.trans (hb2.mono (by simp; omega))
      have B2 := (B1.alloc (.cells #[.slice a1 la c1, .int .i64 na, .int .i64 nl] 24)).below hb2
      have B6 := b6.below hb2
      have hr2 := (hr1.alloc (Nat.le_refl _) (.cells #[.slice a1 la c1, .int .i64 na, .int .i64 nl] 24)).below hb2 (by simp)
      obtain ⟨_, _, _, _, _, _⟩ := B2.three
      go_wp2_with fail
      have k2' := k2.alloc (by omega) (.cells #[.int .i64 ni, .slice a la ca, .int .i64 na, .int .i64 nl] 30)
      have b7 := Box.new w2 30 [.int .i64 ni, .slice a la ca, .int .i64 na, .int .i64 nl]
      refine (Start_any _ _ _ xs _ (hx.below k2' (Nat.le_refl _)) (by simp; omega) (by omega)).mono ?_
      rintro e w3 ⟨a3, c3, rfl, hr3, hb3⟩
      have s3 := hb3.size
      rw [World.size_alloc] at s3
      have k3 := k2'.trans (hb3.mono (by simp; omega))
      have s03 : w.heap.size < w3.heap.size := by omega
      have s13 : w1.heap.size < w3.heap.size := by omega
      have s23 : w2.heap.size < w3.heap.size := by omega
      have B3 := ((B2.alloc (.cells #[.int .i64 ni, .slice a la ca, .int .i64 na, .int .i64 nl] 30)).below hb3).alloc (.cells #[.slice a3 la c3, .int .i64 0, .int .i64 (-1)] 24)
      have B63 := ((B6.alloc (.cells #[.int .i64 ni, .slice a la ca, .int .i64 na, .int .i64 nl] 30)).below hb3).alloc (.cells #[.slice a3 la c3, .int .i64 0, .int .i64 (-1)] 24)
      have B73 := (b7.below hb3).alloc (.cells #[.slice a3 la c3, .int .i64 0, .int .i64 (-1)] 24)
      have B83 := Box.new w3 24 [.slice a3 la c3, .int .i64 0, .int .i64 (-1)]
      have hr23 := ((hr2.alloc (by omega) (.cells #[.int .i64 ni, .slice a la ca, .int .i64 na, .int .i64 nl] 30)).below hb3 (by simp; omega)).alloc (by omega) (.cells #[.slice a3 la c3, .int .i64 0, .int .i64 (-1)] 24)
      have hr33 := hr3.alloc (Nat.le_refl _) (.cells #[.slice a3 la c3, .int .i64 0, .int .i64 (-1)] 24)
      have k3' := k3.alloc (by omega) (.cells #[.slice a3 la c3, .int .i64 0, .int .i64 (-1)] 24)
      have hx3 := hx.below k3' (Nat.le_refl _)
      have HT3 := Lib.hid (HT.out.below k3' HT.out.lt)
      have hs5 : (w3.alloc (.cells #[.slice a3 la c3, .int .i64 0, .int .i64 (-1)] 24)).heap.size = w3.heap.size + 1 := World.size_alloc _ _
      clear k0 b0 k1' b6 k2' b7 k3 k2 k1 hr1 hb1 hb2 hb3 hr2 B2 B6 hr3 B1
      go_wp2_with fail
      generalize w3.alloc (.cells #[.slice a3 la c3, .int .i64 0, .int .i64 (-1)] 24) = w5 at *
      have s5 : w3.heap.size < w5.heap.size := by omega
      clear hs5
      have K : ∀ w', Below w5.heap.size w5 w' → (Below w5.heap.size w5 w' ∧
          w'.cell? ⟨w.heap.size, 0, none⟩ = some (.slice a la ca) ∧
          w'.cell? ⟨w1.heap.size, 0, none⟩ = some (.slice a1 la c1) ∧ w'.cell? ⟨w1.heap.size, 1, none⟩ = some (.int .i64 na) ∧ w'.cell? ⟨w1.heap.size, 2, none⟩ = some (.int .i64 nl) ∧
          w'.cell? ⟨w2.heap.size, 0, none⟩ = some (.int .i64 ni) ∧ w'.cell? ⟨w2.heap.size, 1, none⟩ = some (.slice a la ca) ∧ w'.cell? ⟨w2.heap.size, 2, none⟩ = some (.int .i64 na) ∧ w'.cell? ⟨w2.heap.size, 3, none⟩ = some (.int .i64 nl) ∧
          w'.cell? ⟨w3.heap.size, 0, none⟩ = some (.slice a3 la c3) ∧ w'.cell? ⟨w3.heap.size, 1, none⟩ = some (.int .i64 0) ∧ w'.cell? ⟨w3.heap.size, 2, none⟩ = some (.int .i64 (-1))) :=
        fun w' h => ⟨h, (B3.below h).cell 0, (B63.below h).cell 0, (B63.below h).cell 1, (B63.below h).cell 2, (B73.below h).cell 0, (B73.below h).cell 1, (B73.below h).cell 2, (B73.below h).cell 3, (B83.below h).cell 0, (B83.below h).cell 1, (B83.below h).cell 2⟩
      have C1 : ∀ w', Below w5.heap.size w5 w' → Calls Tryd.prog 11 #[.agg #[.slice a1 la c1, .int .i64 na, .int .i64 nl], .agg #[.slice a la ca, .int .i64 na, .int .i64 nl]] w' fun e w'' => e = .returned (.bool true) ∧ Below w'.heap.size w' w'' :=
        fun w' h => same_true _ _ _ _ _ xs _ _ _ (hr23.below h (by omega)) (hx3.below h (by omega)) (by have := h.size; omega) (by have := h.size; omega) (by omega)
      have C2 : ∀ w', Below w5.heap.size w5 w' → Calls Tryd.prog 11 #[.agg #[.slice a3 la c3, .int .i64 0, .int .i64 (-1)], .agg #[.slice a la ca, .int .i64 0, .int .i64 (-1)]] w' fun e w'' => e = .returned (.bool true) ∧ Below w'.heap.size w' w'' :=
        fun w' h => same_true _ _ _ _ _ xs _ _ _ (hr33.below h (by omega)) (hx3.below h (by omega)) (by have := h.size; omega) (by have := h.size; omega) (by omega)
      have C3 : ∀ w', Below w5.heap.size w5 w' → Calls Tryd.prog 7 #[] w' fun e w'' => e = .returned (.bool true) ∧ Below w'.heap.size w' w'' :=
        fun w' h => awake_any w' (HT3.out.below h (by omega))
      have C4 : ∀ w', Below w5.heap.size w5 w' → Calls Tryd.prog 12 #[.slice a la ca] w' fun e w'' => e = .returned (.agg #[.slice a la ca, .int .i64 0, .int .i64 (-1)]) ∧ Below w'.heap.size w' w'' :=
        fun w' _ => rstart_any a la ca w'
      have HK := Lib.hid K
      have H1 := Lib.hid C1
      have H2 := Lib.hid C2
      have H3 := Lib.hid C3
      have H4 := Lib.hid C4
      have HD := Lib.hid k3'
      clear K C1 C2 C3 C4 B3 B63 B73 B83 hr23 hr33 hx3 hx hy k3'
      go_region_held3 (fun w' => Below w5.heap.size w5 w' ∧
          w'.cell? ⟨w.heap.size, 0, none⟩ = some (.slice a la ca) ∧
          w'.cell? ⟨w1.heap.size, 0, none⟩ = some (.slice a1 la c1) ∧ w'.cell? ⟨w1.heap.size, 1, none⟩ = some (.int .i64 na) ∧ w'.cell? ⟨w1.heap.size, 2, none⟩ = some (.int .i64 nl) ∧
          w'.cell? ⟨w2.heap.size, 0, none⟩ = some (.int .i64 ni) ∧ w'.cell? ⟨w2.heap.size, 1, none⟩ = some (.slice a la ca) ∧ w'.cell? ⟨w2.heap.size, 2, none⟩ = some (.int .i64 na) ∧ w'.cell? ⟨w2.heap.size, 3, none⟩ = some (.int .i64 nl) ∧
          w'.cell? ⟨w3.heap.size, 0, none⟩ = some (.slice a3 la c3) ∧ w'.cell? ⟨w3.heap.size, 1, none⟩ = some (.int .i64 0) ∧ w'.cell? ⟨w3.heap.size, 2, none⟩ = some (.int .i64 (-1)))
        (first
          | exact HK.out _ (Below.refl _ _).drew
          | exact HK.out _ (below_next (And.left (by assumption)) hbz (Nat.le_refl _)))
        (first
          | (go_at_call 11; (with_reducible refine (H1.out _ ?_).mono ?_); exact And.left (by assumption); rintro e wz ⟨rfl, hbz⟩)
          | (go_at_call 11; (with_reducible refine (H2.out _ ?_).mono ?_); exact And.left (by assumption); rintro e wz ⟨rfl, hbz⟩)
          | (go_at_call 12; (with_reducible refine (H4.out _ ?_).mono ?_); exact And.left (by assumption); rintro e wz ⟨rfl, hbz⟩)
          | (go_at_call 7; (with_reducible refine (H3.out _ ?_).mono ?_); exact And.left (by assumption); rintro e wz ⟨rfl, hbz⟩))
      go_wp2
      go_ret
      refine ⟨rfl, HD.out.trans (Below.mono (B := w5.heap.size) ?_ (by omega))⟩
      exact And.left (by assumption)

end Go.Proofs.YteedkkimcfddfaaDoor
