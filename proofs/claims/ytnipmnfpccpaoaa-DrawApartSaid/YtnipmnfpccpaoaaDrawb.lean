/- Contracts of Many of some, and of the statements' own Draw and Many. -/
import Derived.Test.YtnipmnfpccpaoaaDraw
namespace Go.Proofs.Ytnipmnfpccpaoaa
open Go.RowKit

theorem filled_get (xs : List Int) (p : Int) (n k : Nat) (h : k < n) : (filled xs p n k)[k]? = some (.int .i64 0) := by
  have hl := manyI_length xs p k
  rw [filled, List.getElem?_append_right (by simp [hl]), List.length_map, hl, Nat.sub_self, List.getElem?_replicate]
  simp; omega

theorem filled_all (xs : List Int) (p : Int) (n : Nat) : filled xs p n n = (manyI xs p n).map (Value.int .i64) := by simp [filled]

theorem many_some (a : Option Addr) (la ca : Nat) (xs : List Int) (p : Int) (n : Nat) (w : World) {lo hi : Nat} (hx : Row lo hi w a la xs) (hhi : hi ≤ w.heap.size) (hm : la ≤ 1000000) (hn0 : 0 < n) (hn1 : n ≤ 65536) :
    Calls Try.prog 10 #[.agg #[.slice a la ca, .int .i64 p], .int .i64 n] w fun e w' => ∃ a1 c1 a2 c2, e = .returned (.tuple #[.slice a1 n c1, .agg #[.slice a2 la c2, .int .i64 (atK p n)]]) ∧ n ≤ c1 ∧ Row w.heap.size w'.heap.size w' a1 n (manyI xs p n) ∧ Row w.heap.size w'.heap.size w' a2 la xs ∧ Below w.heap.size w w' := by
  have hg0 : ∀ o o', Below w.heap.size w ((w.alloc o).alloc o') := fun o o' => by go_grown
  have b1 := (Box.new w 24 [.slice a la ca, .int .i64 p]).alloc (.cells #[.slice none 0 0, .int .i64 0] 24)
  have b2 := Box.new (w.alloc (.cells #[.slice a la ca, .int .i64 p] 24)) 24 [.slice none 0 0, .int .i64 0]
  rw [World.size_alloc] at b2
  obtain ⟨i0, hi0, hz0, hz1, hz2⟩ := info_parts Try.info3
  go_enter Try.func10, Try.ntmps10
  go_wp2_with (first
    | (go_at_call 17; refine (own_any _ _ _ xs _ _ (hx.below (hg0 _ _) hhi) (by simp; omega) hm).mono ?_; rintro e w1 ⟨a', c', rfl, hr, hb⟩; have B1 := b1.below hb; have B2 := b2.below hb; have hb' := (hg0 _ _).trans (hb.mono (by simp; omega)); obtain ⟨_, _, _, _⟩ := B1.two; obtain ⟨_, _, _, _⟩ := B2.two)
    | (at_make; refine wpList_make_full _ rfl _ _ 22 rfl w1.heap.size 3 i0 (.int .i64 0) 1 Try.underlying22 hi0 hz0 hz1 _ _ _ _ n rfl rfl rfl rfl ?m1 ?m2 ?m3 ?_))
  case m1 => rw [hz2]; omega
  case m2 => unfold maxLen; omega
  case m3 => simp
  have hsz : w.heap.size + 2 ≤ w1.heap.size := by have := hb.size; simp at this; omega
  have B1' := (B1.set 0 (.slice a' la c')).set 1 (.int .i64 p)
  have B2' := (B2.setOther (a := ⟨w.heap.size, 0, none⟩) (by simp) (.slice a' la c')).setOther (a := ⟨w.heap.size, 1, none⟩) (by simp) (.int .i64 p)
  have hr' : Row (w.heap.size + 2) w1.heap.size _ a' la xs := ((hr.mono (by simp) (Nat.le_refl _)).set (p := ⟨w.heap.size, 0, none⟩) (.inl (by simp)) (.slice a' la c')).set (p := ⟨w.heap.size, 1, none⟩) (.inl (by simp)) (.int .i64 p)
  have hw' := (hb'.setCell (p := ⟨w.heap.size, 0, none⟩) (by simp) (.slice a' la c')).setCell (p := ⟨w.heap.size, 1, none⟩) (by simp) (.int .i64 p)
  intro w2 hown hgr
  rw [toList_madeCells_one] at hown
  have B1 : Box w2 w.heap.size 24 [.slice a' la c', .int .i64 p] := (hgr.block _ (by simp; omega) (by simp)).trans B1'
  have B2 : Box w2 (w.heap.size + 1) 24 [.slice none 0 0, .int .i64 0] := (hgr.block _ (by simp; omega) (by simp)).trans B2'
  have hr2 : Row (w.heap.size + 2) w1.heap.size w2 a' la xs := hr'.grown hgr (by simp) (by simp)
  have hb2 : Below w.heap.size w w2 := hw'.grown hgr (by simp; omega) (by simp)
  have hsz2 : w1.heap.size < w2.heap.size := (hown.lt w1.heap.size rfl).2
  clear hgr hw' hr' B1' B2' hr hb hb' hx
  go_wp2
  go_loopw [21] (fun i wr => ∃ k : Nat, k ≤ n ∧ i = .int .i64 k ∧ wr.ownsRow w1.heap.size 3 1 (.slice (some ⟨w1.heap.size, 0, none⟩) n n) n (filled xs p n k) ∧
      Box wr w.heap.size 24 [.slice a' la c', .int .i64 (atK p k)] ∧ Box wr (w.heap.size + 1) 24 [.slice none 0 0, .int .i64 0] ∧
      Row (w.heap.size + 2) w1.heap.size wr a' la xs ∧ Below w.heap.size w wr) (fun i _ => n - (intOf i).toNat)
  case atStart => exact ⟨0, Nat.zero_le _, rfl, by simpa [filled, manyI] using hown, B1, B2, hr2, hb2⟩
  case round =>
    clear hown B1 B2 hr2 hb2
    obtain ⟨k, hk, rfl, hown, B1, B2, hr, hbw⟩ := hrel
    have hszr : w1.heap.size < wr.heap.size := (hown.lt w1.heap.size rfl).2
    by_cases hlt : k < n
    · obtain ⟨_, _, _, _⟩ := B1.two
      go_wp2_with (go_at_call 16; refine (next_any _ _ _ xs _ _ hr (by omega) hm).mono ?_; rintro e w3 ⟨rfl, hb3⟩; have B1' := B1.below hb3; have B2' := B2.below hb3; obtain ⟨_, _, _, _⟩ := B1'.two; have hown' := hown.kept (w' := w3) (row := none) ⟨hb3.os, hb3.tape, hb3.output, hb3.size, fun k hk _ => hb3.block k hk⟩ (.inr (by simp [Value.ownBlock])); have hcl : w3.cell? ⟨w1.heap.size, k, none⟩ = some (.int .i64 0) := (hown'.cellAt k (by omega)).trans (filled_get xs p n k hlt); have hfl := hown'.frozenAt k)
      have hst := (hown'.stored k (.int .i64 (nextN xs (atK p k)))).1
      rw [filled_step xs p n k hlt] at hst
      have hs3 := hb3.size
      go_roundw
      case rel =>
        refine ⟨k + 1, by omega, by go_num, ?_, ?_, ?_, ?_, ?_⟩
        · exact ownsRow_setCell_below (ownsRow_setCell_below hst (by simp; omega) _) (by simp; omega) _
        · exact ((B1'.setOther (by simp; omega) _).set 0 _).set 1 _
        · exact ((B2'.setOther (by simp; omega) _).setOther (by simp) _).setOther (by simp) _
        · exact (((hr.below hb3 (by omega)).set (.inr (by simp)) _).set (.inl (by simp)) _).set (.inl (by simp)) _
        · exact (((hbw.trans (hb3.mono hbw.size)).setCell (by simp; omega) _).setCell (by simp) _).setCell (by simp) _
      case measure => simp [intOf]; omega
    · obtain rfl : k = n := by omega
      obtain ⟨_, _, _, _⟩ := B1.two
      obtain ⟨_, _, _, _⟩ := B2.two
      rw [filled_all] at hown
      have hl := manyI_length xs p k
      go_wp2
      go_region
      all_goals go_wp2
      all_goals (refine bodyPost_ret (v := .tuple #[.slice (some ⟨w1.heap.size, 0, none⟩) k k, .agg #[.slice a' la c', .int .i64 (atK p k)]]) (by simp only [results, Try.results10]; go_simp) rfl ⟨_, _, _, _, rfl, Nat.le_refl _, ?_, ?_, ?_⟩)
      · obtain ⟨a1, c1, h1, h2⟩ := Row.of_owns (xs := manyI xs p k) (by rw [hl]; exact hown)
        rw [hl] at h1 h2
        cases h1
        exact (((h2.set (.inl (by simp; omega)) _).set (.inl (by simp; omega)) _).drew).mono (by omega) (by simp)
      · exact (((hr.set (.inl (by simp)) _).set (.inl (by simp)) _).drew).mono (by omega) (by simp; omega)
      · exact ((hbw.setCell (by simp) _).setCell (by simp) _).drew


/-! ### The document's own answer -/
theorem refdraw_any (a : Option Addr) (la ca : Nat) (xs : List Int) (p : Int) (w : World) {lo hi : Nat} (hx : Row lo hi w a la xs) (hhi : hi ≤ w.heap.size) :
    Calls Try.prog 9 #[.agg #[.slice a la ca, .int .i64 p]] w fun e w' => e = .returned (.agg #[.int .i64 (nextN xs p), .slice a la ca, .int .i64 (nextAt p)]) ∧ Below w.heap.size w w' := by
  obtain ⟨hl, hx⟩ := hx
  by_cases h : p < 0
  · have e1 : nextN xs p = 0 := by simp [nextN, h]
    have e2 : nextAt p = p := by simp [nextAt, h]
    rw [e1, e2]
    go_enter Try.func9, Try.ntmps9
    go_wp2
    refine bodyPost_ret (v := .agg #[.int .i64 0, .slice a la ca, .int .i64 p]) (by simp only [results, Try.results9]; go_simp) rfl ⟨rfl, ?_⟩
    go_grown
  · by_cases h' : 2147483648 < p
    · have e1 : nextN xs p = 0 := by simp [nextN, h']
      have e2 : nextAt p = p := by simp [nextAt, h']
      rw [e1, e2]
      go_enter Try.func9, Try.ntmps9
      go_wp2
      refine bodyPost_ret (v := .agg #[.int .i64 0, .slice a la ca, .int .i64 p]) (by simp only [results, Try.results9]; go_simp) rfl ⟨rfl, ?_⟩
      go_grown
    · obtain ⟨k, rfl⟩ : ∃ k : Nat, p = k := ⟨p.toNat, by omega⟩
      have e1 : nextN xs k = drawI xs k := by simp [nextN]; omega
      have e2 : nextAt k = k + 1 := by simp [nextAt]; omega
      rw [e1, e2]
      by_cases hlt : k < la
      · obtain ⟨b, off, rfl, _, hb, hc⟩ : ∃ b off, a = some ⟨b, off, none⟩ ∧ lo ≤ b ∧ b < hi ∧ ∀ i, i < la → w.cell? ⟨b, off + i, none⟩ = some (.int .i64 (xs.getD i 0)) := by
          rcases hx with h | h
          · omega
          · exact h
        have hd : drawI xs k = xs.getD k 0 % 2147483648 := by simp [drawI, hl, hlt]
        have hck := hc k hlt
        have hbb : b < w.heap.size := by omega
        obtain ⟨x, hxk⟩ : ∃ x, xs.getD k 0 = x := ⟨_, rfl⟩
        rw [hxk] at hck hd
        clear hc hx hxk
        go_enter Try.func9, Try.ntmps9
        go_wp2_with (go_at_call 13; refine (rmix_any _ _).mono ?_; rintro e w' ⟨rfl, rfl⟩)
        rw [hd]
        refine bodyPost_ret (v := .agg #[.int .i64 (bits .and .i64 x 2147483647), .slice (some ⟨b, off, none⟩) la ca, .int .i64 (k + 1)]) (by simp only [results, Try.results9]; go_simp) rfl ⟨by rw [mask31_i64], ?_⟩
        go_grown
      · clear hx
        have hd : drawI xs k = mixI k := by simp [drawI, hl, hlt]
        rw [hd]
        go_enter Try.func9, Try.ntmps9
        go_wp2_with (go_at_call 13; refine (rmix_any _ _).mono ?_; rintro e w' ⟨rfl, rfl⟩)
        refine bodyPost_ret (v := .agg #[.int .i64 (mixI k), .slice a la ca, .int .i64 (k + 1)]) (by simp only [results, Try.results9]; go_simp) rfl ⟨rfl, ?_⟩
        go_grown

theorem refmany_none (a : Option Addr) (la ca : Nat) (p n : Int) (w : World) (hn : n < 0 ∨ 65536 < n) :
    Calls Try.prog 11 #[.agg #[.slice a la ca, .int .i64 p], .int .i64 n] w fun e w' => e = .returned (.tuple #[.slice none 0 0, .agg #[.slice a la ca, .int .i64 p]]) ∧ Below w.heap.size w w' := by
  by_cases h : n < 0
  · go_enter Try.func11, Try.ntmps11
    go_wp2
    go_region
    all_goals go_wp2
    all_goals (refine bodyPost_ret (v := .tuple #[.slice none 0 0, .agg #[.slice a la ca, .int .i64 p]]) (by simp only [results, Try.results11]; go_simp) rfl ⟨rfl, ?_⟩)
    all_goals go_grown
  · have h' : 65536 < n := by omega
    go_enter Try.func11, Try.ntmps11
    go_wp2
    go_region
    all_goals go_wp2
    all_goals (refine bodyPost_ret (v := .tuple #[.slice none 0 0, .agg #[.slice a la ca, .int .i64 p]]) (by simp only [results, Try.results11]; go_simp) rfl ⟨rfl, ?_⟩)
    all_goals go_grown

theorem refmany_some (a : Option Addr) (la ca : Nat) (xs : List Int) (p : Int) (n : Nat) (w : World) {lo hi : Nat} (hx : Row lo hi w a la xs) (hhi : hi ≤ w.heap.size) (hn1 : n ≤ 65536) :
    Calls Try.prog 11 #[.agg #[.slice a la ca, .int .i64 p], .int .i64 n] w fun e w' => ∃ a1 c1, e = .returned (.tuple #[.slice a1 n c1, .agg #[.slice a la ca, .int .i64 (atK p n)]]) ∧ Row w.heap.size w'.heap.size w' a1 n (manyI xs p n) ∧ Below w.heap.size w w' := by
  have hg0 : ∀ o o', Below w.heap.size w ((w.alloc o).alloc o') := fun o o' => by go_grown
  have b1 := (Box.new w 24 [.slice a la ca, .int .i64 p]).alloc (.cells #[.slice none 0 0, .int .i64 0] 24)
  have b2 := Box.new (w.alloc (.cells #[.slice a la ca, .int .i64 p] 24)) 24 [.slice none 0 0, .int .i64 0]
  rw [World.size_alloc] at b2
  obtain ⟨i0, hi0, hz0, hz1, hz2⟩ := info_parts Try.info3
  go_enter Try.func11, Try.ntmps11
  go_wp2
  go_loopw [6, 7] (fun v i wr => ∃ k : Nat, k ≤ n ∧ i = .int .i64 k ∧ wr.ownsRow (w.heap.size + 2) 3 1 v k ((manyI xs p k).map (Value.int .i64)) ∧
      Box wr w.heap.size 24 [.slice a la ca, .int .i64 (atK p k)] ∧ Box wr (w.heap.size + 1) 24 [.slice none 0 0, .int .i64 0] ∧
      Row lo hi wr a la xs ∧ Below w.heap.size w wr) (fun _ i _ => n - (intOf i).toNat)
  case atStart => exact ⟨0, Nat.zero_le _, rfl, World.ownsRow_nil _ _ _ _, b1, b2, (hx.alloc hhi _).alloc (by simp; omega) _, hg0 _ _⟩
  case round =>
    clear b1 b2 hx
    obtain ⟨k, hk, rfl, hown, B1, B2, hr, hbw⟩ := hrel
    have hszr := hbw.size
    by_cases hlt : k < n
    · obtain ⟨_, _, _, _⟩ := B1.two
      go_wp2_with (first
        | (go_at_call 9; refine (refdraw_any _ _ _ xs _ _ hr (by omega)).mono ?_; rintro e w3 ⟨rfl, hb3⟩; have B1' := B1.below hb3; have B2' := B2.below hb3; obtain ⟨_, _, _, _⟩ := B1'.two; have hown' := ownsRow_below hown hb3)
        | (at_builtin; refine wpList_append_own _ rfl _ _ 22 rfl (w.heap.size + 2) 3 i0 (.int .i64 0) 1 8 Try.underlying22 hi0 hz0 hz1 hz2 rfl (by decide) _ k _ rfl ((hown'.alloc _).alloc _) ⟨w3.heap.size + 1, 0, none⟩ 1 1 [.int .i64 (nextN xs (atK p k))] rfl rfl ?c1 ?c2 ?c3 ?c4 ?c5 ?_))
      case c1 =>
        intro j u hj
        match j, hj with
        | 0, hj => simp at hj; subst hj; simp [Addr.add]
      case c2 => intro u hu; simp at hu; subst hu; rfl
      case c3 => unfold maxLen; omega
      case c4 => omega
      case c5 => have := hb3.size; simp; omega
      intro v' w4 hown4 hgr4 _
      have hs3 := hb3.size
      have hvb : ∀ j, u6.ownBlock = some j → w.heap.size + 2 ≤ j ∧ j < wr.heap.size := hown.lt
      have hne : ∀ j, j < w.heap.size + 2 ∨ wr.heap.size ≤ j → some j ≠ u6.ownBlock := fun j hj e => by have := hvb j e.symm; omega
      have B14 := ((B1'.alloc _).alloc _).grown hgr4 (hne _ (by omega))
      have B24 := ((B2'.alloc _).alloc _).grown hgr4 (hne _ (by omega))
      have B34 := ((Box.new w3 29 [.int .i64 (nextN xs (atK p k)), .slice a la ca, .int .i64 (nextAt (atK p k))]).alloc (.cells #[.int .i64 (nextN xs (atK p k))] 3)).grown hgr4 (hne _ (by omega))
      have hb4 : Below w.heap.size w w4 := (((hbw.trans (hb3.mono (by omega))).alloc (by omega) _).alloc (by simp; omega) _).grown hgr4 (by simp; omega) (fun j hj => by have := hvb j hj; omega)
      have hr4 : Row lo hi w4 a la xs := (((hr.below hb3 (by omega)).alloc (by omega) _).alloc (by simp; omega) _).grown hgr4 (by simp; omega) (fun j hj => by have := hvb j hj; omega)
      obtain ⟨_, _, _, _⟩ := B14.two
      obtain ⟨_, _, _, _⟩ := B34.three
      clear hgr4 hown' hvb hne
      go_wp2
      go_roundw
      case rel => 
        refine ⟨k + 1, by omega, by go_num, ?_, ?_, ?_, ?_, ?_⟩
        · have e : (manyI xs p (k + 1)).map (Value.int .i64) = (manyI xs p k).map (Value.int .i64) ++ [.int .i64 (nextN xs (atK p k))] := by simp [manyI]
          rw [e]
          exact ownsRow_setCell_below (ownsRow_setCell_below hown4 (by simp) _) (by simp) _
        · exact (B14.set 0 _).set 1 _
        · exact (B24.setOther (by simp) _).setOther (by simp) _
        · exact (hr4.set (.inr (by simp; omega)) _).set (.inr (by simp; omega)) _
        · exact (hb4.setCell (by simp) _).setCell (by simp) _
      case measure => simp [intOf]; omega
    · obtain rfl : k = n := by omega
      obtain ⟨_, _, _, _⟩ := B1.two
      obtain ⟨_, _, _, _⟩ := B2.two
      have hl := manyI_length xs p k
      obtain ⟨a1, c1, rfl, h2⟩ := Row.of_owns (xs := manyI xs p k) (by rw [hl]; exact hown)
      rw [hl] at h2 ⊢
      go_wp2
      go_region
      all_goals go_wp2
      all_goals (refine bodyPost_ret (v := .tuple #[.slice a1 k c1, .agg #[.slice a la ca, .int .i64 (atK p k)]]) (by simp only [results, Try.results11]; go_simp) rfl ⟨_, _, rfl, ?_, ?_⟩)
      · exact (((h2.set (.inl (by simp)) _).set (.inl (by simp)) _).drew).mono (by omega) (by simp)
      · exact ((hbw.setCell (by simp) _).setCell (by simp) _).drew

end Go.Proofs.Ytnipmnfpccpaoaa
