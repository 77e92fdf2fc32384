/- The walk of the law DrawParts: it returns true and changes nothing that was there. -/
import Derived.Test.YtnipmnfpccpaoaaLaws
namespace Go.Proofs.Ytnipmnfpccpaoaa
open Go.RowKit

theorem atK_zero (k : Nat) (h : k ≤ 2147483649) : atK 0 k = k := by
  induction k with
  | zero => rfl
  | succ k ih => rw [atK, ih (by omega)]; simp [nextAt]; omega

theorem atK_add (p : Int) (n m : Nat) : atK (atK p n) m = atK p (n + m) := by
  induction m with
  | zero => rfl
  | succ m ih => rw [atK, ih]; rfl

theorem manyI_add (xs : List Int) (p : Int) (n m : Nat) : manyI xs p n ++ manyI xs (atK p n) m = manyI xs p (n + m) := by
  induction m with
  | zero => simp [manyI]
  | succ m ih => rw [← Nat.add_assoc, manyI, manyI, ← ih, atK_add, List.append_assoc]

theorem manyI_get (xs : List Int) (p : Int) (n i : Nat) (h : i < n) : (manyI xs p n).getD i 0 = nextN xs (atK p i) := by
  induction n with
  | zero => omega
  | succ n ih =>
    have hl := manyI_length xs p n
    rw [manyI]
    by_cases hi : i < n
    · rw [← ih hi]; simp [List.getD, List.getElem?_append_left, hl, hi]
    · obtain rfl : i = n := by omega
      simp [List.getD, hl]

theorem ints_true (a b : Option Addr) (la lb ca cb : Nat) (xs ys : List Int) (w : World) {l1 l2 h1 h2 : Nat} (hx : Row l1 h1 w a la xs) (hy : Row l2 h2 w b lb ys) (hm : la ≤ 9223372036854775807) (he : xs = ys) :
    Calls Try.prog 15 #[.slice a la ca, .slice b lb cb] w fun e w' => e = .returned (.bool true) ∧ ∃ n, w' = w.drewN n := by
  refine (ints_any a b la lb ca cb xs ys w hx hy hm).mono ?_
  rintro e w' ⟨rfl, n, rfl⟩
  exact ⟨by simp [he], n, rfl⟩

theorem same_true (a b : Option Addr) (la lb ca cb : Nat) (xs ys : List Int) (p q : Int) (w : World) {l1 l2 h1 h2 : Nat} (hx : Row l1 h1 w a la xs) (hy : Row l2 h2 w b lb ys) (hh1 : h1 ≤ w.heap.size) (hh2 : h2 ≤ w.heap.size) (hm : la ≤ 9223372036854775807) (hp : p = q) (he : xs = ys) :
    Calls Try.prog 14 #[.agg #[.slice a la ca, .int .i64 p], .agg #[.slice b lb cb, .int .i64 q]] w fun e w' => e = .returned (.bool true) ∧ Below w.heap.size w w' := by
  refine (same_any a b la lb ca cb xs ys p q w hx hy hh1 hh2 hm).mono ?_
  rintro e w' ⟨rfl, hb⟩
  exact ⟨by simp [hp, he], hb⟩

/-- Many, of as many as there may be (none, too). -/
theorem many_any (a : Option Addr) (la ca : Nat) (xs : List Int) (p : Int) (N : Int) (n : Nat) (hN : N = n) (w : World) {lo hi : Nat} (hx : Row lo hi w a la xs) (hhi : hi ≤ w.heap.size) (hm : la ≤ 1000000) (hn1 : n ≤ 65536) :
    Calls Try.prog 10 #[.agg #[.slice a la ca, .int .i64 p], .int .i64 N] w fun e w' => ∃ a1 c1 a2 c2, e = .returned (.tuple #[.slice a1 n c1, .agg #[.slice a2 la c2, .int .i64 (atK p n)]]) ∧ Hid (a1 = none → n = 0 ∧ c1 = 0) ∧ n ≤ c1 ∧ Row w.heap.size w'.heap.size w' a1 n (manyI xs p n) ∧ Row w.heap.size w'.heap.size w' a2 la xs ∧ Below w.heap.size w w' := by
  subst hN
  by_cases hn : n = 0
  · subst hn
    refine (many_none a la ca xs p 0 w hx hhi hm (by omega)).mono ?_
    rintro e w' ⟨a', c', rfl, hr, hb⟩
    exact ⟨_, _, _, _, rfl, fun _ => ⟨rfl, rfl⟩, Nat.le_refl _, ⟨rfl, .inl rfl⟩, hr, hb⟩
  · refine (many_some a la ca xs p n w hx hhi hm (by omega) hn1).mono ?_
    rintro e w' ⟨a1, c1, a2, c2, rfl, hc, h1, h2, hb⟩
    refine ⟨_, _, _, _, rfl, ?_, hc, h1, h2, hb⟩
    rintro rfl
    exact absurd h1.nil_len hn

set_option maxRecDepth 100000 in
set_option maxHeartbeats 1000000 in
theorem parts_any (a : Option Addr) (la ca : Nat) (xs : List Int) (n m : Nat) (w : World) (hx : Row 0 w.heap.size w a la xs) (hn : n ≤ 255) (hm : m ≤ 255) :
    Calls Try.prog 4 #[.slice a la ca, .int .u8 n, .int .u8 m] w fun e w' => e = .returned (.bool true) ∧ Below w.heap.size w w' := by
  by_cases h : 100 < la
  · go_enter Try.func4, Try.ntmps4
    go_wp2_with (go_at_call 7; refine (awake_any _).mono ?_; rintro e w' ⟨rfl, hb⟩)
    go_ret
    exact ⟨rfl, hb⟩
  · have hz := atK_zero n (by omega)
    have hz3 : atK 0 (n + m) = n + m := by rw [atK_zero (n + m) (by omega)]; omega
    have hz2 : atK n m = n + m := by rw [← hz, atK_add, hz3, hz]
    have hcat : Hid (manyI xs 0 n ++ manyI xs n m = manyI xs 0 (n + m)) := by show _ = _; rw [← manyI_add, hz]
    go_enter Try.func4, Try.ntmps4
    go_wp2_with fail
    refine (many_any _ _ _ xs _ _ n rfl _ (hx.alloc (Nat.le_refl _) _) (by simp) (by omega) (by omega)).mono ?_
    rintro e w1 ⟨a1, c1, a2, c2, rfl, hn1, _, hr1, hd1, hb1⟩
    have s1 := hb1.size
    rw [World.size_alloc] at s1
    go_wp2_with fail
    refine (many_any _ _ _ xs _ _ m rfl _ (hd1.alloc (Nat.le_refl _) _) (by simp) (by omega) (by omega)).mono ?_
    rintro e w2 ⟨a3, c3, a4, c4, rfl, hn2, _, hr2, hd2, hb2⟩
    have s2 := hb2.size
    rw [World.size_alloc] at s2
    have b0 : Box w2 w.heap.size 24 [.slice a la ca, .int .i64 0] := (((Box.new w 24 _).below hb1).alloc _).below hb2
    obtain ⟨_, _, _, _⟩ := b0.two
    have s02 : w.heap.size < w2.heap.size := by omega
    go_wp2_with fail
    have hx1 : Row 0 w.heap.size w1 a la xs := (hx.alloc (Nat.le_refl _) _).below hb1 (by simp)
    have hx2 : Row 0 w.heap.size w2 a la xs := (hx1.alloc (by omega) _).below hb2 (by simp; omega)
    refine (many_any _ _ _ xs 0 _ (n + m) (by omega) _ (hx2.alloc (by omega) _) (by simp; omega) (by omega) (by omega)).mono ?_
    rintro e w3 ⟨a5, c5, a6, c6, rfl, hn3, _, hr3, hd3, hb3⟩
    have s3 := hb3.size
    rw [World.size_alloc] at s3
    have hx3 : Row 0 w.heap.size w3 a la xs := (hx2.alloc (by omega) _).below hb3 (by simp; omega)
    have hr31 : Row _ w1.heap.size w3 a1 n (manyI xs 0 n) := (((hr1.alloc (Nat.le_refl _) _).below hb2 (by simp)).alloc (by omega) _).below hb3 (by simp; omega)
    have hr32 : Row _ w2.heap.size w3 a3 m (manyI xs n m) := ((hr2.alloc (Nat.le_refl _) _).below hb3 (by simp))
    go_wp2_with fail
    have hw4 : ∀ (k : Nat), k < la → ∃ b o x, a = some ⟨b, o, none⟩ ∧ b < w3.heap.size ∧ w3.cell? ⟨b, o + k, none⟩ = some (.int .i64 x) ∧ drawI xs k = bits .and .i64 x 2147483647 := by
      intro k hk
      rcases hx3.2 with h0 | ⟨b, o, h1, _, h2, h3⟩
      · omega
      · exact ⟨b, o, xs.getD k 0, h1, by omega, h3 k hk, by rw [mask31_i64]; simp [drawI, hx3.1, hk]⟩
    have hw5 : ∀ (k : Nat), k < n + m → ∃ b o, a5 = some ⟨b, o, none⟩ ∧ b < w3.heap.size ∧ w3.cell? ⟨b, o + k, none⟩ = some (.int .i64 (drawI xs k)) := by
      intro k hk
      rcases hr3.2 with h0 | ⟨b, o, h1, _, h2, h3⟩
      · omega
      · have e := h3 k hk
        rw [manyI_get _ _ _ _ hk, atK_zero k (by omega), show nextN xs k = drawI xs k by simp [nextN]; omega] at e
        exact ⟨b, o, h1, h2, e⟩
    have HW4 : Hid _ := hw4
    have HW5 : Hid _ := hw5
    clear hw4 hw5
    go_loopw [14] (fun i wr => ∃ k q : Nat, k ≤ n + m ∧ i = .int .i64 k ∧ wr = (w3.alloc (.cells #[.slice a6 la c6, .int .i64 ((n : Int) + m)] 24)).drewN q) (fun i _ => n + m - (intOf i).toNat)
    case atStart => exact ⟨0, 0, Nat.zero_le _, rfl, rfl⟩
    case round =>
      obtain ⟨k, q, hk, rfl, rfl⟩ := hrel
      by_cases hlt : k < n + m
      · obtain ⟨b5, o5, rfl, hb5, hc5⟩ := HW5.out k hlt
        have hdr := drawI_range xs k
        have hq1 : 0 ≤ drawI xs k := hdr.1
        have hq2 : drawI xs k ≤ 2147483647 := hdr.2
        clear hdr
        by_cases hla : k < la
        · obtain ⟨b6, o6, x, rfl, hb6, hc6, he6⟩ := HW4.out k hla
          rw [he6] at hc5 hq1 hq2
          go_wp2_with fail
          go_quiet (fail)
          go_wp2
          go_roundw
          case rel => exact ⟨k + 1, _, by omega, by go_num, by first | rfl | exact World.drewN_drewN _ _ _⟩
          case measure => simp [intOf]; omega
        · have hdla : decide (k < la) = false := by simpa using hla
          obtain ⟨v, hv⟩ : ∃ v, v = drawI xs k := ⟨_, rfl⟩
          rw [← hv] at hc5 hq1 hq2
          clear hv
          have hq3 : decide (v < 0) = false := by simp; omega
          have hq4 : decide (2147483647 < v) = false := by simp; omega
          go_wp2_with fail
          go_quiet (fail)
          go_wp2
          go_roundw
          case rel => exact ⟨k + 1, _, by omega, by go_num, by first | rfl | exact World.drewN_drewN _ _ _⟩
          case measure => simp [intOf]; omega
      · obtain rfl : k = n + m := by omega
        obtain ⟨i0, hi0, hz0, hz1, hz2'⟩ := info_parts Try.info3
        have hX : ∀ o : Obj, Below w3.heap.size w3 (((w3.alloc o).drewN q).alloc (.cells #[] 3)) := fun o => (below_drewN ((Below.refl _ _).alloc (Nat.le_refl _) _) q).alloc (by simp) _
        have hX1 := hX (.cells #[.slice a6 la c6, .int .i64 ((n : Int) + m)] 24)
        have bz : Box (((w3.alloc (.cells #[.slice a6 la c6, .int .i64 ((n : Int) + m)] 24)).drewN q).alloc (.cells #[] 3)) w3.heap.size 24 [.slice a6 la c6, .int .i64 ((n : Int) + m)] := Box.alloc (w := (w3.alloc (.cells #[.slice a6 la c6, .int .i64 ((n : Int) + m)] 24)).drewN q) (Box.new w3 24 [.slice a6 la c6, .int .i64 ((n : Int) + m)]) _
        have ho : (((w3.alloc (.cells #[.slice a6 la c6, .int .i64 ((n : Int) + m)] 24)).drewN q).alloc (.cells #[] 3)).ownsRow (w3.heap.size + 1) 3 1 (.slice (some ⟨w3.heap.size + 1, 0, none⟩) 0 0) 0 [] := by
          have e : ((w3.alloc (.cells #[.slice a6 la c6, .int .i64 ((n : Int) + m)] 24)).drewN q).heap.size = w3.heap.size + 1 := by show (World.alloc _ _).heap.size = _; simp
          have := World.ownsRow_made (base := w3.heap.size + 1) (e := 3) (size := 1) ((w3.alloc (.cells #[.slice a6 la c6, .int .i64 ((n : Int) + m)] 24)).drewN q) #[] 0 (by rw [e]; exact Nat.le_refl _) (by decide) rfl
          rwa [e] at this
        go_wp2_with (first
          | (at_builtin; refine wpList_append_any rfl (.tmp 94) (.tmp 95) 22 rfl (w3.heap.size + 1) 3 i0 (.int .i64 0) 1 8 Try.underlying22 hi0 hz0 hz1 hz2' rfl (by decide) _ 0 [] rfl ?a1 a1 n c1 ((manyI xs 0 n).map (Value.int .i64)) rfl hn1.out ?a2 ?a3 (ints_oneCell _ _) ?a4 ?a5 ?a6 ?_)
          | fail)
        case a1 => exact ho
        case a2 => simp [hr31.1]
        case a3 =>
          rintro ad rfl
          exact (hr31.below hX1 (by omega)).news
        case a4 => unfold maxLen; omega
        case a5 => omega
        case a6 => simp
        intro v1 w5 hown5 hgr5
        have hX5 : Below w3.heap.size w3 w5 := hX1.grown hgr5 (by simp; omega) (by simp [Value.ownBlock])
        have s5 := hX5.size
        have bz5 := bz.grown hgr5 (by simp [Value.ownBlock])
        have hv1 := hown5.lt
        clear hgr5 hX1 bz
        go_wp2_with (first
          | (at_builtin; refine wpList_append_any rfl (.tmp 96) (.tmp 97) 22 rfl (w3.heap.size + 1) 3 i0 (.int .i64 0) 1 8 Try.underlying22 hi0 hz0 hz1 hz2' rfl (by decide) _ n _ rfl hown5 a3 m c3 ((manyI xs n m).map (Value.int .i64)) rfl hn2.out ?b2 ?b3 (ints_oneCell _ _) ?b4 ?b5 ?b6 ?_)
          | fail)
        case b2 => simp [hr32.1]
        case b3 =>
          rintro ad rfl
          exact (hr32.below hX5 (by omega)).news
        case b4 => unfold maxLen; omega
        case b5 => omega
        case b6 => have := bz5.lt; omega
        intro v2 w6 hown6 hgr6
        have hX6 : Below w3.heap.size w3 w6 := hX5.grown hgr6 (by omega) (fun k hk => by have := hv1 k hk; omega)
        have s6 := hX6.size
        have bz6 := bz5.grown hgr6 (fun e => by have := hv1 _ e.symm; omega)
        rw [← List.map_append] at hown6
        have hl12 : (manyI xs 0 n ++ manyI xs n m).length = n + m := by simp [manyI_length]
        obtain ⟨a7, c7, hv7, hr7⟩ := Row.of_owns (xs := manyI xs 0 n ++ manyI xs n m) (by rw [hl12]; exact hown6)
        rw [hl12] at hv7 hr7
        subst hv7
        clear hgr6 hown6 hown5 hv1 hl12
        go_wp2_with fail
        refine (ints_true _ _ _ _ _ _ _ _ _ hr7 (hr3.below hX6 (Nat.le_refl _)) (by omega) hcat.out).mono ?_
        rintro e w7 ⟨rfl, q7, rfl⟩
        have bz7 : Box (w6.drewN q7) w3.heap.size 24 [.slice a6 la c6, .int .i64 ((n : Int) + m)] := bz6
        have by7 : Box (w6.drewN q7) w2.heap.size 24 [.slice a4 la c4, .int .i64 ((n : Int) + m)] := (((Box.new w2 24 [.slice a4 la c4, .int .i64 ((n : Int) + m)]).below hb3).below (below_drewN hX6 q7))
        obtain ⟨_, _, _, _⟩ := bz7.two
        obtain ⟨_, _, _, _⟩ := by7.two
        have hX7 : Below w3.heap.size w3 (w6.drewN q7) := below_drewN hX6 q7
        have hd2' : Row _ w2.heap.size (w6.drewN q7) a4 la xs := ((hd2.alloc (Nat.le_refl _) _).below hb3 (by simp)).below hX7 (by omega)
        have hd3' : Row _ w3.heap.size (w6.drewN q7) a6 la xs := hd3.below hX7 (Nat.le_refl _)
        go_wp2_with fail
        refine (same_true _ _ _ _ _ _ _ _ _ _ _ hd2' hd3' (by show _ ≤ w6.heap.size; omega) (by show _ ≤ w6.heap.size; omega) (by omega) rfl rfl).mono ?_
        rintro e w8 ⟨rfl, hb8⟩
        have bz8 := bz7.below hb8
        obtain ⟨_, _, _, _⟩ := bz8.two
        have s8 : w6.heap.size ≤ w8.heap.size := hb8.size
        go_wp2_with fail
        refine (awake_any _).mono ?_
        rintro e w9 ⟨rfl, hb9⟩
        go_wp2
        go_ret
        refine ⟨rfl, ?_⟩
        have k1 : Below w.heap.size w w1 := ((Below.refl _ _).alloc (Nat.le_refl _) _).trans (hb1.mono (by simp))
        have k2 : Below w.heap.size w w2 := (k1.alloc (by omega) _).trans (hb2.mono (by simp; omega))
        have k3 : Below w.heap.size w w3 := (k2.alloc (by omega) _).trans (hb3.mono (by simp; omega))
        have k6 : Below w.heap.size w w6 := k3.trans (hX6.mono (by omega))
        exact ((below_drewN k6 q7).trans (hb8.mono (by show _ ≤ w6.heap.size; omega))).trans (hb9.mono (by omega))

end Go.Proofs.Ytnipmnfpccpaoaa
