/- The walk of the law DrawAll: it returns true and changes nothing that was there. -/
import Derived.Test.YtnipmnfpccpaoaaLawc
namespace Go.Proofs.Ytnipmnfpccpaoaa
open Go.RowKit

/-- Many of whatever number: what it draws, and where the draws stand. -/
theorem many_all (a : Option Addr) (la ca : Nat) (xs : List Int) (p n : Int) (w : World) {lo hi : Nat} (hx : Row lo hi w a la xs) (hhi : hi ≤ w.heap.size) (hm : la ≤ 1000000) :
    Calls Try.prog 10 #[.agg #[.slice a la ca, .int .i64 p], .int .i64 n] w fun e w' => ∃ a1 c1 a2 c2, e = .returned (.tuple #[.slice a1 (cnt n) c1, .agg #[.slice a2 la c2, .int .i64 (atK p (cnt n))]]) ∧ Row w.heap.size w'.heap.size w' a1 (cnt n) (manyI xs p (cnt n)) ∧ Row w.heap.size w'.heap.size w' a2 la xs ∧ Below w.heap.size w w' := by
  by_cases h : n < 0 ∨ 65536 < n
  · have e : cnt n = 0 := by simp [cnt, h]
    rw [e]
    refine (many_none a la ca xs p n w hx hhi hm (by omega)).mono ?_
    rintro e w' ⟨a', c', rfl, hr, hb⟩
    exact ⟨_, _, _, _, rfl, ⟨rfl, .inl rfl⟩, hr, hb⟩
  · obtain ⟨k, rfl⟩ : ∃ k : Nat, n = k := ⟨n.toNat, by omega⟩
    have e : cnt k = k := by simp [cnt]; omega
    rw [e]
    refine (many_any a la ca xs p k k rfl w hx hhi hm (by omega)).mono ?_
    rintro e w' ⟨a1, c1, a2, c2, rfl, _, _, h1, h2, hb⟩
    exact ⟨_, _, _, _, rfl, h1, h2, hb⟩

theorem refmany_all (a : Option Addr) (la ca : Nat) (xs : List Int) (p n : Int) (w : World) {lo hi : Nat} (hx : Row lo hi w a la xs) (hhi : hi ≤ w.heap.size) :
    Calls Try.prog 11 #[.agg #[.slice a la ca, .int .i64 p], .int .i64 n] w fun e w' => ∃ a1 c1, e = .returned (.tuple #[.slice a1 (cnt n) c1, .agg #[.slice a la ca, .int .i64 (atK p (cnt n))]]) ∧ Row w.heap.size w'.heap.size w' a1 (cnt n) (manyI xs p (cnt n)) ∧ Below w.heap.size w w' := by
  by_cases h : n < 0 ∨ 65536 < n
  · have e : cnt n = 0 := by simp [cnt, h]
    rw [e]
    refine (refmany_none a la ca p n w h).mono ?_
    rintro e w' ⟨rfl, hb⟩
    exact ⟨_, _, rfl, ⟨rfl, .inl rfl⟩, hb⟩
  · obtain ⟨k, rfl⟩ : ∃ k : Nat, n = k := ⟨n.toNat, by omega⟩
    have e : cnt k = k := by simp [cnt]; omega
    rw [e]
    exact refmany_some a la ca xs p k w hx hhi (by omega)

theorem all_any (a : Option Addr) (la ca : Nat) (xs : List Int) (n p m : Int) (w : World) (hx : Row 0 w.heap.size w a la xs) :
    Calls Try.prog 3 #[.int .i64 n, .agg #[.slice a la ca, .int .i64 p], .int .i64 m] w fun e w' => e = .returned (.bool true) ∧ Below w.heap.size w w' := by
  have hA : ∀ o, Below w.heap.size w (w.alloc o) := fun o => (Below.refl _ _).alloc (Nat.le_refl _) o
  by_cases h : 100 < la
  · go_enter Try.func3, Try.ntmps3
    go_wp2_with (go_at_call 7; refine (awake_any _).mono ?_; rintro e w' ⟨rfl, hb⟩)
    go_ret
    exact ⟨rfl, (hA _).trans (hb.mono (by simp))⟩
  · by_cases h2 : 300 < m
    · go_enter Try.func3, Try.ntmps3
      go_wp2_with (go_at_call 7; refine (awake_any _).mono ?_; rintro e w' ⟨rfl, hb⟩)
      go_ret
      exact ⟨rfl, (hA _).trans (hb.mono (by simp))⟩
    · go_enter Try.func3, Try.ntmps3
      go_wp2_with fail
      have b0 : Box (w.alloc (.cells #[.slice a la ca, .int .i64 p] 24)) w.heap.size 24 [.slice a la ca, .int .i64 p] := Box.new w 24 [.slice a la ca, .int .i64 p]
      have r0 : Row 0 w.heap.size (w.alloc (.cells #[.slice a la ca, .int .i64 p] 24)) a la xs := hx.alloc (Nat.le_refl _) _
      have k0 : Below w.heap.size w (w.alloc (.cells #[.slice a la ca, .int .i64 p] 24)) := hA _
      refine (Next_any _ _ _ xs p _ r0 (by simp) (by omega)).mono ?_
      rintro e w1 ⟨a1, c1, rfl, hr1, hb1⟩
      have b1 := b0.below hb1
      have r1 : Row 0 w.heap.size w1 a la xs := r0.below hb1 (by simp)
      have s1 := hb1.size
      rw [World.size_alloc] at s1
      have k1 : Below w.heap.size w w1 := k0.trans (hb1.mono (by simp))
      obtain ⟨_, _, _, _⟩ := b1.two
      have s01 : w.heap.size < w1.heap.size := by omega
      clear hb1 b0 r0 k0
      go_wp2_with fail
      have bx : Box (w1.alloc (.cells #[.slice a1 la c1, .int .i64 (nextAt p)] 24)) w1.heap.size 24 [.slice a1 la c1, .int .i64 (nextAt p)] := Box.new w1 24 _
      refine (refdraw_any _ _ _ xs p _ (r1.alloc (by omega) _) (by simp; omega)).mono ?_
      rintro e w2 ⟨rfl, hb2⟩
      have s2 := hb2.size
      rw [World.size_alloc] at s2
      have b2 := (b1.alloc (.cells #[.slice a1 la c1, .int .i64 (nextAt p)] 24)).below hb2
      have r2 : Row 0 w.heap.size w2 a la xs := (r1.alloc (by omega) _).below hb2 (by simp; omega)
      have k2 : Below w.heap.size w w2 := (k1.alloc (by omega) _).trans (hb2.mono (B' := w.heap.size) (by simp; omega))
      have bx2 := bx.below hb2
      have hr2 : Row (w.heap.size + 1) w1.heap.size w2 a1 la xs := ((hr1.mono (by simp) (Nat.le_refl _)).alloc (Nat.le_refl _) _).below hb2 (by simp)
      obtain ⟨_, _, _, _⟩ := b2.two
      have s02 : w.heap.size < w2.heap.size := by omega
      clear hb2 b1 r1 k1 bx
      go_wp2_with fail
      have bb : Box (w2.alloc (.cells #[.int .i64 (nextN xs p), .slice a la ca, .int .i64 (nextAt p)] 29)) w2.heap.size 29 [.int .i64 (nextN xs p), .slice a la ca, .int .i64 (nextAt p)] := Box.new w2 29 _
      refine (many_all _ _ _ xs p m _ (r2.alloc (by omega) _) (by simp; omega) (by omega)).mono ?_
      rintro e w3 ⟨a3, c3, a4, c4, rfl, hl3, hy3, hb3⟩
      have s3 := hb3.size
      rw [World.size_alloc] at s3
      have b3 := (b2.alloc (.cells #[.int .i64 (nextN xs p), .slice a la ca, .int .i64 (nextAt p)] 29)).below hb3
      have r3 : Row 0 w.heap.size w3 a la xs := (r2.alloc (by omega) _).below hb3 (by simp; omega)
      have k3 : Below w.heap.size w w3 := (k2.alloc (by omega) _).trans (hb3.mono (B' := w.heap.size) (by simp; omega))
      have bx3 := (bx2.alloc (.cells #[.int .i64 (nextN xs p), .slice a la ca, .int .i64 (nextAt p)] 29)).below hb3
      have bb3 := bb.below hb3
      have hr3 : Row (w.heap.size + 1) w1.heap.size w3 a1 la xs := (hr2.alloc (by omega) _).below hb3 (by simp; omega)
      obtain ⟨_, _, _, _⟩ := b3.two
      have s03 : w.heap.size < w3.heap.size := by omega
      clear hb3 b2 r2 k2 bx2 bb hr2
      go_wp2_with fail
      have by3 : Box (w3.alloc (.cells #[.slice a4 la c4, .int .i64 (atK p (cnt m))] 24)) w3.heap.size 24 [.slice a4 la c4, .int .i64 (atK p (cnt m))] := Box.new w3 24 _
      refine (refmany_all _ _ _ xs p m _ (r3.alloc (by omega) _) (by simp; omega)).mono ?_
      rintro e w4 ⟨a5, c5, rfl, hl4, hb4⟩
      have s4 := hb4.size
      rw [World.size_alloc] at s4
      have r4 : Row 0 w.heap.size w4 a la xs := (r3.alloc (by omega) _).below hb4 (by simp; omega)
      have k4 : Below w.heap.size w w4 := (k3.alloc (by omega) _).trans (hb4.mono (B' := w.heap.size) (by simp; omega))
      have bx4 := (bx3.alloc (.cells #[.slice a4 la c4, .int .i64 (atK p (cnt m))] 24)).below hb4
      have bb4 := (bb3.alloc (.cells #[.slice a4 la c4, .int .i64 (atK p (cnt m))] 24)).below hb4
      have by4 := by3.below hb4
      have hr4 : Row (w.heap.size + 1) w1.heap.size w4 a1 la xs := (hr3.alloc (by omega) _).below hb4 (by simp; omega)
      have hl5 : Row _ w3.heap.size w4 a3 (cnt m) (manyI xs p (cnt m)) := (hl3.alloc (Nat.le_refl _) _).below hb4 (by simp)
      have hy5 : Row _ w3.heap.size w4 a4 la xs := (hy3.alloc (Nat.le_refl _) _).below hb4 (by simp)
      clear hb4 b3 r3 k3 bx3 bb3 hr3 by3 hl3 hy3
      go_wp2_with fail
      have bz : Box (w4.alloc (.cells #[.slice a la ca, .int .i64 (atK p (cnt m))] 24)) w4.heap.size 24 [.slice a la ca, .int .i64 (atK p (cnt m))] := Box.new w4 24 _
      obtain ⟨_, _, _, _⟩ := bx4.two
      obtain ⟨_, _, _, _, _, _⟩ := bb4.three
      obtain ⟨_, _, _, _⟩ := by4.two
      have s14 : w1.heap.size < w4.heap.size := by omega
      have s24 : w2.heap.size < w4.heap.size := by omega
      have s34 : w3.heap.size < w4.heap.size := by omega
      go_wp2_with (first
        | (go_at_call 12; refine (mix_any _ _).mono ?_; rintro e w5 ⟨rfl, rfl⟩)
        | (go_at_call 13; refine (rmix_any _ _).mono ?_; rintro e w5 ⟨rfl, rfl⟩))
      refine (same_true _ _ _ _ _ _ _ _ _ _ _ (hr4.alloc (by omega) _) (r4.alloc (by omega) _) (by simp; omega) (by simp; omega) (by omega) rfl rfl).mono ?_
      rintro e w5 ⟨rfl, hb5⟩
      have s5 := hb5.size
      rw [World.size_alloc] at s5
      have k5 : Below w.heap.size w w5 := (k4.alloc (by omega) _).trans (hb5.mono (B' := w.heap.size) (by simp; omega))
      have r5 : Row 0 w.heap.size w5 a la xs := (r4.alloc (by omega) _).below hb5 (by simp; omega)
      have by5 := (by4.alloc (.cells #[.slice a la ca, .int .i64 (atK p (cnt m))] 24)).below hb5
      have bz5 := bz.below hb5
      have hl6 := (hl5.alloc (by omega) (.cells #[.slice a la ca, .int .i64 (atK p (cnt m))] 24)).below hb5 (by simp; omega)
      have hl7 := (hl4.alloc (Nat.le_refl _) (.cells #[.slice a la ca, .int .i64 (atK p (cnt m))] 24)).below hb5 (by simp)
      have hy6 := (hy5.alloc (by omega) (.cells #[.slice a la ca, .int .i64 (atK p (cnt m))] 24)).below hb5 (by simp; omega)
      clear hb5 by4 bz hl5 hl4 hy5 r4 k4 bx4 bb4 hr4
      have hcm : cnt m ≤ 65536 := by unfold cnt; split <;> omega
      go_wp2_with fail
      refine (ints_true _ _ _ _ _ _ _ _ _ hl6 hl7 (by omega) rfl).mono ?_
      rintro e w6 ⟨rfl, q, rfl⟩
      have by6 : Box (w5.drewN q) w3.heap.size 24 [.slice a4 la c4, .int .i64 (atK p (cnt m))] := by5
      have bz6 : Box (w5.drewN q) w4.heap.size 24 [.slice a la ca, .int .i64 (atK p (cnt m))] := bz5
      obtain ⟨_, _, _, _⟩ := by6.two
      obtain ⟨_, _, _, _⟩ := bz6.two
      have k6 : Below w.heap.size w (w5.drewN q) := below_drewN k5 q
      have r6 : Row 0 w.heap.size (w5.drewN q) a la xs := r5
      have hy7 : Row _ w3.heap.size (w5.drewN q) a4 la xs := hy6
      go_wp2_with fail
      refine (same_true _ _ _ _ _ _ _ _ _ _ _ hy7 r6 (by show _ ≤ w5.heap.size; omega) (by show _ ≤ w5.heap.size; omega) (by omega) rfl rfl).mono ?_
      rintro e w7 ⟨rfl, hb7⟩
      have s7 : w5.heap.size ≤ w7.heap.size := hb7.size
      go_wp2_with fail
      refine (awake_any _).mono ?_
      rintro e w8 ⟨rfl, hb8⟩
      go_wp2
      go_ret
      exact ⟨rfl, (k6.trans (hb7.mono (B' := w.heap.size) (by show _ ≤ w5.heap.size; omega))).trans (hb8.mono (by omega))⟩

end Go.Proofs.Ytnipmnfpccpaoaa
