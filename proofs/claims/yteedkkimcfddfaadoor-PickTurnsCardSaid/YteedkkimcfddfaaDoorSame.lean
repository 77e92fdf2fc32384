/- Contracts of the document's Pick and of the statements' own Ints, same, awake. -/
import Derived.Test.YteedkkimcfddfaaDoorRpick
namespace Go.Proofs.YteedkkimcfddfaaDoor
open Go.RowKit

/-- The document's Pick, whatever is handed in. -/
theorem pick_any (a b : Option Addr) (la ca lb cb : Nat) (xs : List Int) (en : List Bool) (p l : Int) (w : World) {lo hi lo2 hi2 : Nat} (hx : Row lo hi w a la xs) (hhi : hi ≤ w.heap.size) (hm : la ≤ 1000000)
    (hy : RowB lo2 hi2 w b lb en) (hhi2 : hi2 ≤ w.heap.size) (hm2 : lb ≤ 1000) :
    Calls Tryd.prog 9 #[.agg #[.slice a la ca, .int .i64 p, .int .i64 l], .slice b lb cb] w fun e w' => e = .returned (.agg #[.int .i64 (nextI xs p l en), .slice a la ca, .int .i64 (nextAt xs p en), .int .i64 (nextLast xs p l en)]) ∧ Below w.heap.size w w' := by
  have hl : xs.length = la := hx.1
  by_cases hon : on 0 en = []
  · rw [show nextI xs p l en = -1 by simp [nextI, hon], show nextAt xs p en = p by simp [nextAt, hon], show nextLast xs p l en = l by simp [nextLast, hon]]
    exact pick_none a b la ca lb cb en p l w hy hhi2 hm2 hon
  · by_cases hp : 0 ≤ p ∧ p < la
    · obtain ⟨k, rfl⟩ : ∃ k : Nat, p = k := ⟨p.toNat, by omega⟩
      have hk : k < la := by omega
      rw [show nextAt xs k en = k + 1 by simp [nextAt, hon, hl, hk], show nextLast xs k l en = nextI xs k l en by simp [nextLast, hon]]
      rw [show nextI xs k l en = ((on 0 en).getD (xs.getD k 0 % ((on 0 en).length : Int)).toNat 0 : Nat) by simp [nextI, hon, hl, hk]]
      exact pick_hit a b la ca lb cb en k l w hy hhi2 hm2 xs hx hhi hm hon hk _ _ rfl rfl
    · obtain ⟨v, hv⟩ : ∃ v : Nat, behindI en l = v := by
        unfold behindI
        split
        · exact ⟨_, rfl⟩
        · exact ⟨_, rfl⟩
      rw [show nextAt xs p en = p by simp only [nextAt, hon, hl, if_false, if_neg hp], show nextLast xs p l en = nextI xs p l en by simp [nextLast, hon]]
      rw [show nextI xs p l en = behindI en l by simp only [nextI, hon, hl, if_false, if_neg hp], hv]
      by_cases hp0 : p < 0
      · exact pick_lo a b la ca lb cb en p l w hy hhi2 hm2 hp0 hon v hv
      · exact pick_hi a b la ca lb cb en p l w hy hhi2 hm2 (by omega) (by omega) hon v hv

theorem ints_any (a b : Option Addr) (la lb ca cb : Nat) (xs ys : List Int) (w : World) {l1 l2 h1 h2 : Nat} (hx : Row l1 h1 w a la xs) (hy : Row l2 h2 w b lb ys) (hm : la ≤ 9223372036854775807) :
    Calls Tryd.prog 19 #[.slice a la ca, .slice b lb cb] w fun e w' => e = .returned (.bool (decide (xs = ys))) ∧ ∃ n, w' = w.drewN n := by
  obtain ⟨hlx, hx⟩ := hx
  obtain ⟨hly, hy⟩ := hy
  by_cases hne : la = lb
  · obtain rfl := hne
    rcases hx with h0 | ⟨bx, ox, rfl, _, hbx, hcx⟩
    · subst h0
      have : xs = [] := List.length_eq_zero_iff.1 hlx
      have : ys = [] := List.length_eq_zero_iff.1 hly
      subst xs ys
      go_enter Tryd.func19, Tryd.ntmps19
      go_wp2
      go_rounds 1
      go_ret
      exact ⟨rfl, 0, rfl⟩
    · rcases hy with h0 | ⟨by', oy, rfl, _, hby, hcy⟩
      · subst h0
        have : xs = [] := List.length_eq_zero_iff.1 hlx
        have : ys = [] := List.length_eq_zero_iff.1 hly
        subst xs ys
        go_enter Tryd.func19, Tryd.ntmps19
        go_wp2
        go_rounds 1
        go_ret
        exact ⟨rfl, 0, rfl⟩
      · have HX : Hid (∀ i, i < la → w.cell? ⟨bx, ox + i, none⟩ = some (.int .i64 (xs.getD i 0))) := hcx
        have HY : Hid (∀ i, i < la → w.cell? ⟨by', oy + i, none⟩ = some (.int .i64 (ys.getD i 0))) := hcy
        have HL : Hid (xs.length = la ∧ ys.length = la) := ⟨hlx, hly⟩
        clear hcx hcy hlx hly
        go_enter Tryd.func19, Tryd.ntmps19
        go_wp2
        go_loopw [5] (fun i wr => ∃ k n : Nat, k ≤ la ∧ i = .int .i64 k ∧ wr = w.drewN n ∧ Hid (xs.take k = ys.take k)) (fun i _ => la - (intOf i).toNat)
        case atStart => exact ⟨0, 0, Nat.zero_le _, rfl, rfl, by simp [Hid]⟩
        case round =>
          obtain ⟨k, n, hk, rfl, rfl, hp⟩ := hrel
          by_cases hlt : k < la
          · have c1 := HX.out k hlt
            have c2 := HY.out k hlt
            obtain ⟨x, hxk⟩ : ∃ x, xs.getD k 0 = x := ⟨_, rfl⟩
            obtain ⟨y, hyk⟩ : ∃ y, ys.getD k 0 = y := ⟨_, rfl⟩
            rw [hxk] at c1
            rw [hyk] at c2
            have HXk : Hid (xs.getD k 0 = x) := hxk
            have HYk : Hid (ys.getD k 0 = y) := hyk
            clear hxk hyk
            by_cases he : x = y
            · subst he
              go_wp2
              go_quiet (fail)
              go_wp2
              go_roundw
              case rel => exact ⟨k + 1, _, by omega, by go_num, rfl, take_succ_eq (by rw [HL.out.1]; exact hlt) (by rw [HL.out.2]; exact hlt) hp.out (HXk.out.trans HYk.out.symm)⟩
              case measure => simp [intOf]; omega
            · go_wp2
              go_quiet (fail)
              go_wp2
              go_ret
              refine ⟨?_, _, World.drewN_drewN _ _ _⟩
              have : xs ≠ ys := by
                rintro rfl
                exact he (HXk.out.symm.trans HYk.out)
              simp [this]
          · go_wp2
            go_ret
            refine ⟨?_, _, rfl⟩
            obtain rfl : k = la := by omega
            have := hp.out
            rw [List.take_of_length_le (by have := HL.out.1; omega), List.take_of_length_le (by have := HL.out.2; omega)] at this
            simp [this]
  · have hn : xs ≠ ys := by rintro rfl; omega
    have hni : ((la : Int) == (lb : Int)) = false := by simp; omega
    clear hlx hly hx hy
    go_enter Tryd.func19, Tryd.ntmps19
    go_wp2
    go_ret
    exact ⟨by simp [hn], 0, rfl⟩


/-- 'same' of two picks that are one. -/
theorem same_true (a b : Option Addr) (la ca cb : Nat) (xs : List Int) (p l : Int) (w : World) {l1 l2 h1 h2 : Nat} (hx : Row l1 h1 w a la xs) (hy : Row l2 h2 w b la xs) (hh1 : h1 ≤ w.heap.size) (hh2 : h2 ≤ w.heap.size) (hm : la ≤ 9223372036854775807) :
    Calls Tryd.prog 11 #[.agg #[.slice a la ca, .int .i64 p, .int .i64 l], .agg #[.slice b la cb, .int .i64 p, .int .i64 l]] w fun e w' => e = .returned (.bool true) ∧ Below w.heap.size w w' := by
  go_enter Tryd.func11, Tryd.ntmps11
  go_wp2_with fail
  refine (ints_any _ _ _ _ _ _ xs xs _ ((hx.alloc hh1 _).alloc (by simp; omega) _) ((hy.alloc hh2 _).alloc (by simp; omega) _) hm).mono ?_
  rintro e w' ⟨rfl, n, rfl⟩
  go_wp2_with fail
  go_ret
  refine ⟨by simp, ?_⟩
  exact below_drewN (((Below.refl _ _).alloc (Nat.le_refl _) _).alloc (by simp) _) _

theorem awake_any (w : World) (hT : Tab w) : Calls Tryd.prog 7 #[] w fun e w' => e = .returned (.bool true) ∧ Below w.heap.size w w' := by
  have hr : RowB w.heap.size (w.heap.size + 1) (w.alloc (.cells #[.bool true, .bool true, .bool true] 4)) (some ⟨w.heap.size, 0, none⟩) 3 [true, true, true] := by
    refine ⟨rfl, .inr ⟨w.heap.size, 0, rfl, Nat.le_refl _, by omega, fun i hi => ?_⟩⟩
    match i, hi with
    | 0, _ => simp
    | 1, _ => simp
    | 2, _ => simp
  have k0 : Below w.heap.size w (w.alloc (.cells #[.bool true, .bool true, .bool true] 4)) := by go_grown
  have HT := Lib.hid hT
  have z : ∀ (w' : World) (x : Option Addr), Row 0 0 w' x 0 [] := fun _ _ => ⟨rfl, .inl rfl⟩
  have HZ := Lib.hid z
  clear hT z
  go_enter Tryd.func7, Tryd.ntmps7
  go_wp2_with fail
  refine (Start_any _ _ _ [] _ (HZ.out _ _) (Nat.zero_le _) (by omega)).mono ?_
  rintro e w1 ⟨a1, c1, rfl, hr1, hb1⟩
  have s1 := hb1.size
  rw [World.size_alloc] at s1
  have k1 := k0.trans (hb1.mono (by simp))
  have r1 := hr.below hb1 (by simp)
  go_wp2_with fail
  refine (Next_any _ _ _ _ _ _ [] [true, true, true] _ _ _ (HZ.out _ _) (Nat.zero_le _) (by omega) r1 (by omega) (by omega) (HT.out.below k1 HT.out.lt)).mono ?_
  have v1 : nextI [] 0 (-1) [true, true, true] = 0 := by rfl
  have v2 : nextAt [] 0 [true, true, true] = 0 := by rfl
  have v3 : nextLast [] 0 (-1) [true, true, true] = 0 := by rfl
  rw [v1, v2, v3]
  clear v1 v2 v3
  rintro e w2 ⟨a2, c2, rfl, hr2, hb2⟩
  have s2 := hb2.size
  have k2 := k1.trans (hb2.mono (by omega))
  have r2 := r1.below hb2 (by omega)
  go_wp2_with fail
  refine (Next_any _ _ _ _ _ _ [] [true, true, true] _ _ _ (HZ.out _ _) (Nat.zero_le _) (by omega) (r2.alloc (by omega) _) (by simp; omega) (by omega) (HT.out.below (k2.alloc (by omega) _) HT.out.lt)).mono ?_
  have v1 : nextI [] 0 0 [true, true, true] = 1 := by rfl
  have v2 : nextAt [] 0 [true, true, true] = 0 := by rfl
  have v3 : nextLast [] 0 0 [true, true, true] = 1 := by rfl
  rw [v1, v2, v3]
  clear v1 v2 v3
  rintro e w3 ⟨a3, c3, rfl, hr3, hb3⟩
  have s3 := hb3.size
  rw [World.size_alloc] at s3
  have k3 := (k2.alloc (by omega) (.cells #[.slice a2 0 c2, .int .i64 0, .int .i64 0] 24)).trans (hb3.mono (by simp; omega))
  have r3 := (r2.alloc (by omega) (.cells #[.slice a2 0 c2, .int .i64 0, .int .i64 0] 24)).below hb3 (by simp; omega)
  go_wp2_with fail
  refine (Next_any _ _ _ _ _ _ [] [true, true, true] _ _ _ (HZ.out _ _) (Nat.zero_le _) (by omega) (r3.alloc (by omega) _) (by simp; omega) (by omega) (HT.out.below (k3.alloc (by omega) _) HT.out.lt)).mono ?_
  have v1 : nextI [] 0 1 [true, true, true] = 2 := by rfl
  have v2 : nextAt [] 0 [true, true, true] = 0 := by rfl
  have v3 : nextLast [] 0 1 [true, true, true] = 2 := by rfl
  rw [v1, v2, v3]
  clear v1 v2 v3
  rintro e w4 ⟨a4, c4, rfl, hr4, hb4⟩
  have s4 := hb4.size
  rw [World.size_alloc] at s4
  have k4 := ((k3.alloc (by omega) (.cells #[.slice a3 0 c3, .int .i64 0, .int .i64 1] 24)).trans (hb4.mono (by simp; omega)))
  go_wp2_with fail
  go_ret
  exact ⟨rfl, k4.alloc (by omega) _⟩

end Go.Proofs.YteedkkimcfddfaaDoor
