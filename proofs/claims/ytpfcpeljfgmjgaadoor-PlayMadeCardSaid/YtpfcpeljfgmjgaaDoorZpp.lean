/- Contract of package pick's behind. Contract of package pick's Next. Contract of the document's own Pick. Contracts of the document's Pick and of the statements' own Ints, same, awake. -/
import Derived.Test.YtpfcpeljfgmjgaaDoorZpm
import Derived.Test.YtpfcpeljfgmjgaaDoorZpa
namespace Go.Proofs.YtpfcpeljfgmjgaaDoor
open Go.RowKit

theorem behind_any (a : Option Addr) (n c : Nat) (en : List Bool) (last : Int) (w : World) (h : Holds w a n en) (hen : en.length ≤ 1000) (hT : Tab w) (hon : on 0 en ≠ []) :
    Calls Tryd.prog 101 #[.slice a n c, .int .i64 last] w fun e w' => e = .returned (.int .i64 (behindI en last)) ∧ w = w' := by
  have HL := Lib.hid h.len
  by_cases h0 : last < 0
  · rw [behind_low en last hon h0]
    go_enter Tryd.func101, Tryd.ntmps101
    go_wp2_with (go_at_call 119; refine (from_any a n c en 0 0 rfl _ h hen hT (by omega)).mono ?_; rintro e w1 ⟨rfl, rfl⟩)
    go_ret
    exact ⟨rfl, rfl⟩
  · obtain ⟨k, rfl⟩ : ∃ k : Nat, last = k := ⟨last.toNat, by omega⟩
    by_cases hk : k / 64 < n
    · have hm := behind_mid en k hon
      have hr := from_range en (k + 1)
      have hn : n ≤ 17 := by have := HL.out; omega
      by_cases hf : 0 ≤ from' en (k + 1)
      · rw [if_pos hf] at hm
        rw [hm]
        generalize hgen : from' en (k + 1) = f at *
        have HG := Lib.hid hgen
        clear hm hgen
        have hk64 : (k : Int) / 64 < n := by omega
        go_enter Tryd.func101, Tryd.ntmps101
        go_wp2_with (go_at_call 119; refine (from_any a n c en _ (k + 1) (by simp) _ h hen hT (by omega)).mono ?_; rw [HG.out]; rintro e w1 ⟨rfl, rfl⟩)
        go_ret
        exact ⟨rfl, rfl⟩
      · rw [if_neg hf] at hm
        rw [hm]
        have hfe : from' en (k + 1) = -1 := by omega
        have HG := Lib.hid hfe
        clear hm hfe hr hf
        have hk64 : (k : Int) / 64 < n := by omega
        go_enter Tryd.func101, Tryd.ntmps101
        go_wp2_with fail
        refine (from_any a n c en _ (k + 1) (by simp) _ h hen hT (by omega)).mono ?_
        rw [HG.out]; rintro e w1 ⟨rfl, rfl⟩
        go_wp2_with fail
        refine (from_any a n c en 0 0 rfl _ h hen hT (by omega)).mono ?_
        rintro e w1 ⟨rfl, rfl⟩
        go_wp2
        go_ret
        exact ⟨rfl, rfl⟩
    · rw [behind_high en k hon (by have := HL.out; omega)]
      have hk64 : ¬ (k : Int) / 64 < n := by omega
      go_enter Tryd.func101, Tryd.ntmps101
      go_wp2_with (go_at_call 119; refine (from_any a n c en 0 0 rfl _ h hen hT (by omega)).mono ?_; rintro e w1 ⟨rfl, rfl⟩)
      go_ret
      exact ⟨rfl, rfl⟩

end Go.Proofs.YtpfcpeljfgmjgaaDoor

namespace Go.Proofs.YtpfcpeljfgmjgaaDoor
open Go.RowKit

/-- Who is next, and what the picks are behind it. -/
def nextI (xs : List Int) (p l : Int) (en : List Bool) : Int :=
  if on 0 en = [] then -1 else if 0 ≤ p ∧ p < xs.length then ((on 0 en).getD (xs.getD p.toNat 0 % (on 0 en).length).toNat 0 : Nat) else behindI en l
def nextAt (xs : List Int) (p : Int) (en : List Bool) : Int := if on 0 en = [] then p else if 0 ≤ p ∧ p < xs.length then p + 1 else p
def nextLast (xs : List Int) (p l : Int) (en : List Bool) : Int := if on 0 en = [] then l else nextI xs p l en

theorem nth_int (a : Option Addr) (n c : Nat) (en : List Bool) (K : Int) (w : World) (h : Holds w a n en) (hen : en.length ≤ 1000) (hT : Tab w) (h0 : 0 ≤ K) (hk : K < (on 0 en).length) :
    Calls Tryd.prog 99 #[.slice a n c, .int .i64 K] w fun e w' => e = .returned (.int .i64 ((on 0 en).getD K.toNat 0 : Nat)) ∧ w = w' := by
  obtain ⟨k, rfl⟩ : ∃ k : Nat, K = k := ⟨K.toNat, by omega⟩
  exact nth_any a n c en k w h hen hT (by omega)

set_option maxRecDepth 100000 in
set_option maxHeartbeats 1000000 in
theorem Next_none (a b : Option Addr) (la ca lb cb : Nat) (xs : List Int) (en : List Bool) (p l : Int) (w : World) {lo hi lo2 hi2 : Nat} (hx : Row lo hi w a la xs) (hhi : hi ≤ w.heap.size) (hm : la ≤ 1000000)
    (hy : RowB lo2 hi2 w b lb en) (hhi2 : hi2 ≤ w.heap.size) (hm2 : lb ≤ 1000) (hon : on 0 en = []) :
    Calls Tryd.prog 70 #[.agg #[.slice a la ca, .int .i64 p, .int .i64 l], .slice b lb cb] w fun e w' => ∃ a' c', e = .returned (.tuple #[.int .i64 (-1), .agg #[.slice a' la c', .int .i64 p, .int .i64 l]]) ∧ Row w.heap.size w'.heap.size w' a' la xs ∧ Below w.heap.size w w' := by
  have hg0 : ∀ o o', Below w.heap.size w ((w.alloc o).alloc o') := fun o o' => by go_grown
  have b1 := (Box.new w 88 [.slice a la ca, .int .i64 p, .int .i64 l]).alloc (.cells #[.slice none 0 0, .int .i64 0, .int .i64 0] 88)
  have b2 := Box.new (w.alloc (.cells #[.slice a la ca, .int .i64 p, .int .i64 l] 88)) 88 [.slice none 0 0, .int .i64 0, .int .i64 0]
  rw [World.size_alloc] at b2
  have hlen : en.length = lb := hy.1
  have hcnt : (((on 0 en).length : Int) == 0) = true := by rw [hon]; rfl
  have HL := Lib.hid hlen
  clear hlen hon
  go_enter Tryd.func70, Tryd.ntmps70
  go_wp2_with fail
  refine (clone_any _ _ _ xs _ (hx.below (hg0 _ _) hhi) (by simp; omega) hm).mono ?_
  rintro e w1 ⟨a', c', rfl, hr, hb⟩
  have s1 := hb.size
  rw [World.size_alloc, World.size_alloc] at s1
  have B1 := (b1.below hb).set 0 (.slice a' la c')
  have B2 := (b2.below hb).setOther (a := ⟨w.heap.size, 0, none⟩) (by simp) (.slice a' la c')
  have hr1 := (hr.mono (by simp) (Nat.le_refl _) : Row (w.heap.size + 2) w1.heap.size w1 a' la xs).set (p := ⟨w.heap.size, 0, none⟩) (.inl (by simp)) (.slice a' la c')
  have hb1 := ((hg0 (.cells #[.slice a la ca, .int .i64 p, .int .i64 l] 88) (.cells #[.slice none 0 0, .int .i64 0, .int .i64 0] 88)).trans (hb.mono (by simp; omega))).setCell (p := ⟨w.heap.size, 0, none⟩) (by simp) (.slice a' la c')
  have s2 : (w1.setCell ⟨w.heap.size, 0, none⟩ (.slice a' la c')).heap.size = w1.heap.size := by simp
  obtain ⟨_, _, _, _, _, _⟩ := ((b1.below hb)).three
  go_wp2_with fail
  generalize hw2 : w1.setCell ⟨w.heap.size, 0, none⟩ (.slice a' la c') = w2 at *
  refine (setof_any _ _ _ en _ (hy.below hb1 hhi2) (by omega) hm2).mono ?_
  rintro e w3 ⟨a3, n, c3, rfl, hset, hb3⟩
  have s3 := hb3.size
  have hr3 := hr1.below hb3 (by omega)
  have B13 := B1.below hb3
  have B23 := B2.below hb3
  have hb4 := hb1.trans (hb3.mono (by omega))
  obtain ⟨_, _, _, _, _, _⟩ := B13.three
  obtain ⟨_, _, _, _, _, _⟩ := B23.three
  clear hw2
  go_wp2_with fail
  refine (count_any _ _ _ en _ ⟨_, _, hset⟩ (by have := HL.out; omega)).mono ?_
  rintro e w4 ⟨rfl, rfl⟩
  go_wp2_with fail
  go_region
  all_goals go_wp2
  all_goals (refine bodyPost_ret (v := .tuple #[.int .i64 (-1), .agg #[.slice a' la c', .int .i64 p, .int .i64 l]]) (by simp only [results, Tryd.results70]; go_simp) rfl ⟨_, _, rfl, ?_, ?_⟩)
  · exact ((((hr3.set (.inl (by simp)) _).set (.inl (by simp)) _).set (.inl (by simp)) _).drew).mono (by omega) (by simp; omega)
  · exact (((hb4.setCell (by simp) _).setCell (by simp) _).setCell (by simp) _).drew

set_option maxRecDepth 100000 in
set_option maxHeartbeats 1000000 in
set_option maxRecDepth 100000 in
set_option maxHeartbeats 1000000 in
theorem Next_lo (a b : Option Addr) (la ca lb cb : Nat) (xs : List Int) (en : List Bool) (p l : Int) (w : World) {lo hi lo2 hi2 : Nat} (hx : Row lo hi w a la xs) (hhi : hi ≤ w.heap.size) (hm : la ≤ 1000000)
    (hy : RowB lo2 hi2 w b lb en) (hhi2 : hi2 ≤ w.heap.size) (hm2 : lb ≤ 1000) (hT : Tab w) (hon : on 0 en ≠ []) (hp : p < 0) :
    Calls Tryd.prog 70 #[.agg #[.slice a la ca, .int .i64 p, .int .i64 l], .slice b lb cb] w fun e w' => ∃ a' c', e = .returned (.tuple #[.int .i64 (behindI en l), .agg #[.slice a' la c', .int .i64 p, .int .i64 (behindI en l)]]) ∧ Row w.heap.size w'.heap.size w' a' la xs ∧ Below w.heap.size w w' := by
  have hg0 : ∀ o o', Below w.heap.size w ((w.alloc o).alloc o') := fun o o' => by go_grown
  have b1 := (Box.new w 88 [.slice a la ca, .int .i64 p, .int .i64 l]).alloc (.cells #[.slice none 0 0, .int .i64 0, .int .i64 0] 88)
  have b2 := Box.new (w.alloc (.cells #[.slice a la ca, .int .i64 p, .int .i64 l] 88)) 88 [.slice none 0 0, .int .i64 0, .int .i64 0]
  rw [World.size_alloc] at b2
  have hlen : en.length = lb := hy.1
  have hpos : 1 ≤ (on 0 en).length := by cases h : on 0 en with
    | nil => exact absurd h hon
    | cons _ _ => simp
  have hle := on_length_le en 0
  have hcnt : (((on 0 en).length : Int) == 0) = false := by simp; omega
  have HL := Lib.hid hlen
  have HON := Lib.hid hon
  have HT := Lib.hid hT
  clear hlen hon hT hle
  go_enter Tryd.func70, Tryd.ntmps70
  go_wp2_with fail
  refine (clone_any _ _ _ xs _ (hx.below (hg0 _ _) hhi) (by simp; omega) hm).mono ?_
  rintro e w1 ⟨a', c', rfl, hr, hb⟩
  have s1 := hb.size
  rw [World.size_alloc, World.size_alloc] at s1
  have B1 := (b1.below hb).set 0 (.slice a' la c')
  have B2 := (b2.below hb).setOther (a := ⟨w.heap.size, 0, none⟩) (by simp) (.slice a' la c')
  have hr1 := (hr.mono (by simp) (Nat.le_refl _) : Row (w.heap.size + 2) w1.heap.size w1 a' la xs).set (p := ⟨w.heap.size, 0, none⟩) (.inl (by simp)) (.slice a' la c')
  have hb1 := ((hg0 (.cells #[.slice a la ca, .int .i64 p, .int .i64 l] 88) (.cells #[.slice none 0 0, .int .i64 0, .int .i64 0] 88)).trans (hb.mono (by simp; omega))).setCell (p := ⟨w.heap.size, 0, none⟩) (by simp) (.slice a' la c')
  have s2 : (w1.setCell ⟨w.heap.size, 0, none⟩ (.slice a' la c')).heap.size = w1.heap.size := by simp
  obtain ⟨_, _, _, _, _, _⟩ := ((b1.below hb)).three
  go_wp2_with fail
  generalize hw2 : w1.setCell ⟨w.heap.size, 0, none⟩ (.slice a' la c') = w2 at *
  refine (setof_any _ _ _ en _ (hy.below hb1 hhi2) (by omega) hm2).mono ?_
  rintro e w3 ⟨a3, n, c3, rfl, hset, hb3⟩
  have s3 := hb3.size
  have hr3 := hr1.below hb3 (by omega)
  have B13 := B1.below hb3
  have B23 := B2.below hb3
  have hb4 := hb1.trans (hb3.mono (by omega))
  obtain ⟨_, _, _, _, _, _⟩ := B13.three
  obtain ⟨_, _, _, _, _, _⟩ := B23.three
  clear hw2
  go_wp2_with fail
  refine (count_any _ _ _ en _ ⟨_, _, hset⟩ (by have := HL.out; omega)).mono ?_
  rintro e w4 ⟨rfl, rfl⟩
  go_wp2_with fail
  go_wp2_with fail
  refine (behind_any _ _ _ en _ _ ⟨_, _, hset⟩ (by have := HL.out; omega) (HT.out.below hb4 HT.out.lt) HON.out).mono ?_
  rintro e w4 ⟨rfl, rfl⟩
  go_wp2_with fail
  go_region
  all_goals go_wp2
  all_goals (refine bodyPost_ret (v := .tuple #[.int .i64 (behindI en l), .agg #[.slice a' la c', .int .i64 p, .int .i64 (behindI en l)]]) (by simp only [results, Tryd.results70]; go_simp) rfl ⟨_, _, rfl, ?_, ?_⟩)
  · exact (((((hr3.set (.inl (by simp)) _).set (.inl (by simp)) _).set (.inl (by simp)) _).set (.inl (by simp)) _).drew).mono (by omega) (by simp; omega)
  · exact ((((hb4.setCell (by simp) _).setCell (by simp) _).setCell (by simp) _).setCell (by simp) _).drew

set_option maxRecDepth 100000 in
set_option maxHeartbeats 1000000 in
theorem Next_hi (a b : Option Addr) (la ca lb cb : Nat) (xs : List Int) (en : List Bool) (p l : Int) (w : World) {lo hi lo2 hi2 : Nat} (hx : Row lo hi w a la xs) (hhi : hi ≤ w.heap.size) (hm : la ≤ 1000000)
    (hy : RowB lo2 hi2 w b lb en) (hhi2 : hi2 ≤ w.heap.size) (hm2 : lb ≤ 1000) (hT : Tab w) (hon : on 0 en ≠ []) (hp0 : 0 ≤ p) (hp : (la : Int) ≤ p) :
    Calls Tryd.prog 70 #[.agg #[.slice a la ca, .int .i64 p, .int .i64 l], .slice b lb cb] w fun e w' => ∃ a' c', e = .returned (.tuple #[.int .i64 (behindI en l), .agg #[.slice a' la c', .int .i64 p, .int .i64 (behindI en l)]]) ∧ Row w.heap.size w'.heap.size w' a' la xs ∧ Below w.heap.size w w' := by
  have hg0 : ∀ o o', Below w.heap.size w ((w.alloc o).alloc o') := fun o o' => by go_grown
  have b1 := (Box.new w 88 [.slice a la ca, .int .i64 p, .int .i64 l]).alloc (.cells #[.slice none 0 0, .int .i64 0, .int .i64 0] 88)
  have b2 := Box.new (w.alloc (.cells #[.slice a la ca, .int .i64 p, .int .i64 l] 88)) 88 [.slice none 0 0, .int .i64 0, .int .i64 0]
  rw [World.size_alloc] at b2
  have hlen : en.length = lb := hy.1
  have hpos : 1 ≤ (on 0 en).length := by cases h : on 0 en with
    | nil => exact absurd h hon
    | cons _ _ => simp
  have hle := on_length_le en 0
  have hcnt : (((on 0 en).length : Int) == 0) = false := by simp; omega
  have HL := Lib.hid hlen
  have HON := Lib.hid hon
  have HT := Lib.hid hT
  clear hlen hon hT hle
  go_enter Tryd.func70, Tryd.ntmps70
  go_wp2_with fail
  refine (clone_any _ _ _ xs _ (hx.below (hg0 _ _) hhi) (by simp; omega) hm).mono ?_
  rintro e w1 ⟨a', c', rfl, hr, hb⟩
  have s1 := hb.size
  rw [World.size_alloc, World.size_alloc] at s1
  have B1 := (b1.below hb).set 0 (.slice a' la c')
  have B2 := (b2.below hb).setOther (a := ⟨w.heap.size, 0, none⟩) (by simp) (.slice a' la c')
  have hr1 := (hr.mono (by simp) (Nat.le_refl _) : Row (w.heap.size + 2) w1.heap.size w1 a' la xs).set (p := ⟨w.heap.size, 0, none⟩) (.inl (by simp)) (.slice a' la c')
  have hb1 := ((hg0 (.cells #[.slice a la ca, .int .i64 p, .int .i64 l] 88) (.cells #[.slice none 0 0, .int .i64 0, .int .i64 0] 88)).trans (hb.mono (by simp; omega))).setCell (p := ⟨w.heap.size, 0, none⟩) (by simp) (.slice a' la c')
  have s2 : (w1.setCell ⟨w.heap.size, 0, none⟩ (.slice a' la c')).heap.size = w1.heap.size := by simp
  obtain ⟨_, _, _, _, _, _⟩ := ((b1.below hb)).three
  go_wp2_with fail
  generalize hw2 : w1.setCell ⟨w.heap.size, 0, none⟩ (.slice a' la c') = w2 at *
  refine (setof_any _ _ _ en _ (hy.below hb1 hhi2) (by omega) hm2).mono ?_
  rintro e w3 ⟨a3, n, c3, rfl, hset, hb3⟩
  have s3 := hb3.size
  have hr3 := hr1.below hb3 (by omega)
  have B13 := B1.below hb3
  have B23 := B2.below hb3
  have hb4 := hb1.trans (hb3.mono (by omega))
  obtain ⟨_, _, _, _, _, _⟩ := B13.three
  obtain ⟨_, _, _, _, _, _⟩ := B23.three
  clear hw2
  go_wp2_with fail
  refine (count_any _ _ _ en _ ⟨_, _, hset⟩ (by have := HL.out; omega)).mono ?_
  rintro e w4 ⟨rfl, rfl⟩
  go_wp2_with fail
  go_wp2_with fail
  refine (behind_any _ _ _ en _ _ ⟨_, _, hset⟩ (by have := HL.out; omega) (HT.out.below hb4 HT.out.lt) HON.out).mono ?_
  rintro e w4 ⟨rfl, rfl⟩
  go_wp2_with fail
  go_region
  all_goals go_wp2
  all_goals (refine bodyPost_ret (v := .tuple #[.int .i64 (behindI en l), .agg #[.slice a' la c', .int .i64 p, .int .i64 (behindI en l)]]) (by simp only [results, Tryd.results70]; go_simp) rfl ⟨_, _, rfl, ?_, ?_⟩)
  · exact (((((hr3.set (.inl (by simp)) _).set (.inl (by simp)) _).set (.inl (by simp)) _).set (.inl (by simp)) _).drew).mono (by omega) (by simp; omega)
  · exact ((((hb4.setCell (by simp) _).setCell (by simp) _).setCell (by simp) _).setCell (by simp) _).drew

set_option maxRecDepth 100000 in
set_option maxHeartbeats 1000000 in
theorem Next_hit (a b : Option Addr) (la ca lb cb : Nat) (xs : List Int) (en : List Bool) (k : Nat) (l : Int) (w : World) {lo hi lo2 hi2 : Nat} (hx : Row lo hi w a la xs) (hhi : hi ≤ w.heap.size) (hm : la ≤ 1000000)
    (hy : RowB lo2 hi2 w b lb en) (hhi2 : hi2 ≤ w.heap.size) (hm2 : lb ≤ 1000) (hT : Tab w) (hon : on 0 en ≠ []) (hk : k < la) (x : Int) (v : Nat) (hxv : xs.getD k 0 = x) (hv : (on 0 en).getD (x % ((on 0 en).length : Int)).toNat 0 = v) :
    Calls Tryd.prog 70 #[.agg #[.slice a la ca, .int .i64 k, .int .i64 l], .slice b lb cb] w fun e w' => ∃ a' c', e = .returned (.tuple #[.int .i64 (v : Nat), .agg #[.slice a' la c', .int .i64 (k + 1), .int .i64 (v : Nat)]]) ∧ Row w.heap.size w'.heap.size w' a' la xs ∧ Below w.heap.size w w' := by
  have hg0 : ∀ o o', Below w.heap.size w ((w.alloc o).alloc o') := fun o o' => by go_grown
  have b1 := (Box.new w 88 [.slice a la ca, .int .i64 k, .int .i64 l]).alloc (.cells #[.slice none 0 0, .int .i64 0, .int .i64 0] 88)
  have b2 := Box.new (w.alloc (.cells #[.slice a la ca, .int .i64 k, .int .i64 l] 88)) 88 [.slice none 0 0, .int .i64 0, .int .i64 0]
  rw [World.size_alloc] at b2
  have hlen : en.length = lb := hy.1
  have hpos : 1 ≤ (on 0 en).length := by cases h : on 0 en with
    | nil => exact absurd h hon
    | cons _ _ => simp
  have hle := on_length_le en 0
  have hcnt : (((on 0 en).length : Int) == 0) = false := by simp; omega
  have HL := Lib.hid hlen
  have HON := Lib.hid hon
  have HXV := Lib.hid hxv
  have HV := Lib.hid hv
  have HT := Lib.hid hT
  clear hlen hon hT hxv hv
  go_enter Tryd.func70, Tryd.ntmps70
  go_wp2_with fail
  refine (clone_any _ _ _ xs _ (hx.below (hg0 _ _) hhi) (by simp; omega) hm).mono ?_
  rintro e w1 ⟨a', c', rfl, hr, hb⟩
  have s1 := hb.size
  rw [World.size_alloc, World.size_alloc] at s1
  have B1 := (b1.below hb).set 0 (.slice a' la c')
  have B2 := (b2.below hb).setOther (a := ⟨w.heap.size, 0, none⟩) (by simp) (.slice a' la c')
  have hr1 := (hr.mono (by simp) (Nat.le_refl _) : Row (w.heap.size + 2) w1.heap.size w1 a' la xs).set (p := ⟨w.heap.size, 0, none⟩) (.inl (by simp)) (.slice a' la c')
  have hb1 := ((hg0 (.cells #[.slice a la ca, .int .i64 k, .int .i64 l] 88) (.cells #[.slice none 0 0, .int .i64 0, .int .i64 0] 88)).trans (hb.mono (by simp; omega))).setCell (p := ⟨w.heap.size, 0, none⟩) (by simp) (.slice a' la c')
  have s2 : (w1.setCell ⟨w.heap.size, 0, none⟩ (.slice a' la c')).heap.size = w1.heap.size := by simp
  obtain ⟨_, _, _, _, _, _⟩ := ((b1.below hb)).three
  go_wp2_with fail
  generalize hw2 : w1.setCell ⟨w.heap.size, 0, none⟩ (.slice a' la c') = w2 at *
  refine (setof_any _ _ _ en _ (hy.below hb1 hhi2) (by omega) hm2).mono ?_
  rintro e w3 ⟨a3, n, c3, rfl, hset, hb3⟩
  have s3 := hb3.size
  have hr3 := hr1.below hb3 (by omega)
  have B13 := B1.below hb3
  have B23 := B2.below hb3
  have hb4 := hb1.trans (hb3.mono (by omega))
  obtain ⟨_, _, _, _, _, _⟩ := B13.three
  obtain ⟨_, _, _, _, _, _⟩ := B23.three
  clear hw2
  go_wp2_with fail
  refine (count_any _ _ _ en _ ⟨_, _, hset⟩ (by have := HL.out; omega)).mono ?_
  rintro e w4 ⟨rfl, rfl⟩
  go_wp2_with fail
  obtain ⟨b', off', rfl, _, hbb, hcc⟩ := hr3.2.resolve_left (by omega)
  have hck := hcc k hk
  have hbs : b' < w3.heap.size := by omega
  have hle1 : (on 0 en).length ≤ 1000 := by have := HL.out; omega
  rw [HXV.out] at hck
  have T1 : Sem.run Tryd.prog (Instr.indexAt 22 (.slice (some ⟨b', off', none⟩) la c') (.int .i64 (k:Int))) w3 = .ok (.pointer (some ⟨b', off' + k, none⟩)) w3 := by go_simp
  clear hcc
  go_wp2_with fail
  rw [T1]
  go_wp2_with fail
  refine (modulo_any x ((on 0 en).length : Int) _ (by omega) (by omega)).mono ?_
  rintro e w4 ⟨rfl, rfl⟩
  go_wp2_with fail
  have hm0 := Int.emod_nonneg x (by omega : ((on 0 en).length : Int) ≠ 0)
  have hm1 := Int.emod_lt_of_pos x (by omega : (0 : Int) < ((on 0 en).length : Int))
  refine (nth_int _ _ _ en _ _ ⟨_, _, hset⟩ (by have := HL.out; omega) (HT.out.below hb4 HT.out.lt) hm0 hm1).mono ?_
  rw [HV.out]
  rintro e w4 ⟨rfl, rfl⟩
  go_wp2_with fail
  go_region
  all_goals go_wp2
  all_goals (refine bodyPost_ret (v := .tuple #[.int .i64 (v : Nat), .agg #[.slice (some ⟨b', off', none⟩) la c', .int .i64 (k + 1), .int .i64 (v : Nat)]]) (by simp only [results, Tryd.results70]; go_simp) rfl ⟨_, _, rfl, ?_, ?_⟩)
  · exact (((((hr3.set (.inl (by simp)) _ |>.set (.inl (by simp)) _).set (.inl (by simp)) _).set (.inl (by simp)) _).set (.inl (by simp)) _).drew).mono (by omega) (by simp; omega)
  · exact ((((hb4.setCell (by simp) _ |>.setCell (by simp) _).setCell (by simp) _).setCell (by simp) _).setCell (by simp) _).drew


/-- Next, whatever is handed in. -/
theorem Next_any (a b : Option Addr) (la ca lb cb : Nat) (xs : List Int) (en : List Bool) (p l : Int) (w : World) {lo hi lo2 hi2 : Nat} (hx : Row lo hi w a la xs) (hhi : hi ≤ w.heap.size) (hm : la ≤ 1000000)
    (hy : RowB lo2 hi2 w b lb en) (hhi2 : hi2 ≤ w.heap.size) (hm2 : lb ≤ 1000) (hT : Tab w) :
    Calls Tryd.prog 70 #[.agg #[.slice a la ca, .int .i64 p, .int .i64 l], .slice b lb cb] w fun e w' => ∃ a' c', e = .returned (.tuple #[.int .i64 (nextI xs p l en), .agg #[.slice a' la c', .int .i64 (nextAt xs p en), .int .i64 (nextLast xs p l en)]]) ∧ Row w.heap.size w'.heap.size w' a' la xs ∧ Below w.heap.size w w' := by
  have hl : xs.length = la := hx.1
  by_cases hon : on 0 en = []
  · rw [show nextI xs p l en = -1 by simp [nextI, hon], show nextAt xs p en = p by simp [nextAt, hon], show nextLast xs p l en = l by simp [nextLast, hon]]
    exact Next_none a b la ca lb cb xs en p l w hx hhi hm hy hhi2 hm2 hon
  · by_cases hp : 0 ≤ p ∧ p < la
    · obtain ⟨k, rfl⟩ : ∃ k : Nat, p = k := ⟨p.toNat, by omega⟩
      have hk : k < la := by omega
      rw [show nextAt xs k en = k + 1 by simp [nextAt, hon, hl, hk], show nextLast xs k l en = nextI xs k l en by simp [nextLast, hon]]
      rw [show nextI xs k l en = ((on 0 en).getD (xs.getD k 0 % ((on 0 en).length : Int)).toNat 0 : Nat) by simp [nextI, hon, hl, hk]]
      exact Next_hit a b la ca lb cb xs en k l w hx hhi hm hy hhi2 hm2 hT hon hk _ _ rfl rfl
    · rw [show nextAt xs p en = p by simp only [nextAt, hon, hl, if_false, if_neg hp], show nextLast xs p l en = nextI xs p l en by simp [nextLast, hon]]
      rw [show nextI xs p l en = behindI en l by simp only [nextI, hon, hl, if_false, if_neg hp]]
      by_cases hp0 : p < 0
      · exact Next_lo a b la ca lb cb xs en p l w hx hhi hm hy hhi2 hm2 hT hon hp0
      · exact Next_hi a b la ca lb cb xs en p l w hx hhi hm hy hhi2 hm2 hT hon (by omega) (by omega)

end Go.Proofs.YtpfcpeljfgmjgaaDoor

namespace Go.Proofs.YtpfcpeljfgmjgaaDoor
open Go.RowKit

theorem on_take_succ (en : List Bool) (k : Nat) (h : k < en.length) : on 0 (en.take (k + 1)) = if en.getD k false = true then on 0 (en.take k) ++ [k] else on 0 (en.take k) := by
  have hg : en.take (k + 1) = en.take k ++ [en.getD k false] := by
    rw [List.take_add_one, List.getElem?_eq_getElem h]; simp [List.getD, h]
  have hl : 0 + (en.take k).length = k := by simp; omega
  rw [hg, on_append, hl]
  cases en.getD k false <;> simp [on]

theorem take_le_succ (l : List Nat) (m : Nat) (y : Nat) (z : Int) (h : m < l.length) (hp : ∀ x ∈ l.take m, (x : Int) ≤ z) (hy : l.getD m 0 = y) (hz : (y : Int) ≤ z) : ∀ x ∈ l.take (m + 1), (x : Int) ≤ z := by
  intro x hx
  rw [List.take_add_one, List.getElem?_eq_getElem h] at hx
  rcases List.mem_append.1 hx with hx | hx
  · exact hp x hx
  · simp at hx
    rw [List.getD_eq_getElem?_getD, List.getElem?_eq_getElem h] at hy
    simp at hy
    subst hx; omega

theorem behind_found (en : List Bool) (l : Int) (m y : Nat) (h : m < (on 0 en).length) (hp : ∀ x ∈ (on 0 en).take m, (x : Int) ≤ l) (hy : (on 0 en).getD m 0 = y) (hz : l < (y : Int)) : behindI en l = y := by
  have e : (on 0 en).find? (fun x : Nat => decide (l < (x : Int))) = some y := by
    conv => lhs; rw [← List.take_append_drop m (on 0 en)]
    rw [List.find?_append, List.find?_eq_none.2 (by intro x hx; have := hp x hx; simp; omega), List.drop_eq_getElem_cons h]
    rw [List.getD_eq_getElem?_getD, List.getElem?_eq_getElem h] at hy
    simp at hy
    simp [hy, hz]
  unfold behindI
  rw [e]

theorem behind_round (en : List Bool) (l : Int) (hp : ∀ x ∈ on 0 en, (x : Int) ≤ l) : behindI en l = ((on 0 en).getD 0 0 : Nat) := by
  unfold behindI
  rw [List.find?_eq_none.2 (by intro x hx; have := hp x hx; simp; omega)]

set_option maxRecDepth 100000 in
set_option maxHeartbeats 1000000 in
theorem pick_none (a b : Option Addr) (la ca lb cb : Nat) (en : List Bool) (p : Int) (l : Int) (w : World) {lo2 hi2 : Nat}
    (hy : RowB lo2 hi2 w b lb en) (hhi2 : hi2 ≤ w.heap.size) (hm2 : lb ≤ 1000) (hon : on 0 en = []) :
    Calls Tryd.prog 45 #[.agg #[.slice a la ca, .int .i64 p, .int .i64 l], .slice b lb cb] w fun e w' => e = .returned (.agg #[.int .i64 (-1), .slice a la ca, .int .i64 p, .int .i64 l]) ∧ Below w.heap.size w w' := by
  have hg0 : ∀ o o', Below w.heap.size w ((w.alloc o).alloc o') := fun o o' => by go_grown
  have b1 := (Box.new w 88 [.slice a la ca, .int .i64 p, .int .i64 l]).alloc (.cells #[.int .i64 0, .slice none 0 0, .int .i64 0, .int .i64 0] 91)
  have b2 := Box.new (w.alloc (.cells #[.slice a la ca, .int .i64 p, .int .i64 l] 88)) 91 [.int .i64 0, .slice none 0 0, .int .i64 0, .int .i64 0]
  rw [World.size_alloc] at b2
  obtain ⟨i0, hi0, hz0, hz1, hz2⟩ := info_parts Tryd.info3
  have hcnt : (((on 0 en).length : Int) == 0) = true := by rw [hon]; rfl
  have HL := Lib.hid hy.1
  have HY := Lib.hid hy.2
  have HON := Lib.hid hon
  clear hon
  clear hy
  go_enter Tryd.func45, Tryd.ntmps45
  go_wp2_with fail
  go_loopw [5, 6] (fun v i wr => ∃ k : Nat, k ≤ lb ∧ i = .int .i64 k ∧ wr.ownsRow (w.heap.size + 2) 3 1 v (on 0 (en.take k)).length ((on 0 (en.take k)).map (fun x : Nat => Value.int .i64 x)) ∧
      Box wr w.heap.size 88 [.slice a la ca, .int .i64 p, .int .i64 l] ∧ Box wr (w.heap.size + 1) 91 [.int .i64 0, .slice none 0 0, .int .i64 0, .int .i64 0] ∧
      Below w.heap.size w wr) (fun _ i _ => lb - (intOf i).toNat)
  case atStart => exact ⟨0, Nat.zero_le _, rfl, World.ownsRow_nil _ _ _ _, b1, b2, hg0 _ _⟩
  case round =>
    clear b1 b2
    obtain ⟨k, hk, rfl, hown, B1, B2, hbw⟩ := hrel
    have hszr := hbw.size
    have hbl := B2.lt
    by_cases hlt : k < lb
    · obtain ⟨b', off', rfl, _, hbb, hcc⟩ := HY.out.resolve_left (by omega)
      have hck := (hbw.cell (p := ⟨b', off' + k, none⟩) (by show b' < _; omega)).trans (hcc k hlt)
      have hb0 : b' < wr.heap.size := by omega
      have hol := on_length_le (en.take k) 0
      have htl : (en.take k).length ≤ 1000 := by simp; omega
      have hts := on_take_succ en k (by rw [HL.out]; exact hlt)
      clear hcc
      by_cases ht : en.getD k false = true
      · rw [ht] at hck hts
        simp only [if_true] at hts
        have HTS := Lib.hid hts
        clear hts ht
        go_wp2_with (at_builtin; refine wpList_append_own _ rfl _ _ 22 rfl (w.heap.size + 2) 3 i0 (.int .i64 0) 1 8 Tryd.underlying22 hi0 hz0 hz1 hz2 rfl (by decide) _ (on 0 (en.take k)).length _ rfl (hown.alloc _) ⟨wr.heap.size, 0, none⟩ 1 1 [.int .i64 k] rfl rfl ?c1 ?c2 ?c3 ?c4 ?c5 ?_)
        case c1 =>
          intro j u hj
          match j, hj with
          | 0, hj => simp at hj; subst hj; simp [Addr.add]
        case c2 => intro u hu; simp at hu; subst hu; rfl
        case c3 => unfold maxLen; omega
        case c4 => omega
        case c5 => simp; omega
        intro v' w4 hown4 hgr4 _
        have hvb : ∀ j, u5.ownBlock = some j → w.heap.size + 2 ≤ j ∧ j < wr.heap.size := hown.lt
        have hne : ∀ j, j < w.heap.size + 2 ∨ wr.heap.size ≤ j → some j ≠ u5.ownBlock := fun j hj e => by have := hvb j e.symm; omega
        have B14 := (B1.alloc _).grown hgr4 (hne _ (by omega))
        have B24 := (B2.alloc _).grown hgr4 (hne _ (by omega))
        have hb4 : Below w.heap.size w w4 := (hbw.alloc (by omega) _).grown hgr4 (by simp; omega) (fun j hj => by have := hvb j hj; omega)
        clear hgr4 hvb hne
        go_wp2_with fail
        go_roundw
        case rel => exact ⟨k + 1, by omega, by go_num, by rw [HTS.out]; simpa using hown4, B14, B24, hb4⟩
        case measure => simp [intOf]; omega
      · have ht : en.getD k false = false := by simpa using ht
        rw [ht] at hck hts
        simp at hts
        have HTS := Lib.hid hts
        clear hts ht
        go_wp2_with fail
        go_roundw
        case rel => exact ⟨k + 1, by omega, by go_num, by rw [HTS.out]; exact hown, B1, B2, hbw⟩
        case measure => simp [intOf]; omega
    · obtain rfl : k = lb := by omega
      have hte : en.take k = en := List.take_of_length_le (by rw [HL.out]; exact Nat.le_refl _)
      rw [hte] at hown
      obtain ⟨a5, c5, hv5, hr5⟩ := RowF.of_owns (f := fun x : Nat => Value.int .i64 x) (d := 0) (xs := on 0 en) hown
      have hle := on_length_le en 0
      have hle1 : (on 0 en).length ≤ 1000 := by have := HL.out; omega
      subst hv5
      obtain ⟨_, _, _, _, _, _⟩ := B1.three
      have F0 := B2.frozen 0
      have F1 := B2.frozen 1
      have F2 := B2.frozen 2
      have F3 := B2.frozen 3
      have C0 := B2.cell 0
      have C1 := B2.cell 1
      have C2 := B2.cell 2
      have C3 := B2.cell 3
      simp only [List.getElem?_cons_zero, List.getElem?_cons_succ] at C0 C1 C2 C3
      clear hown hte hle
      go_wp2_with fail
      refine bodyPost_ret (v := .agg #[.int .i64 (-1), .slice a la ca, .int .i64 p, .int .i64 l]) (by simp only [results, Tryd.results45]; go_simp) rfl ⟨rfl, ?_⟩
      exact (((hbw.setCell (by simp) _).setCell (by simp) _).setCell (by simp) _).setCell (by simp) _

set_option maxRecDepth 100000 in
set_option maxHeartbeats 1000000 in
theorem pick_hit (a b : Option Addr) (la ca lb cb : Nat) (en : List Bool) (k0 : Nat) (l : Int) (w : World) {lo2 hi2 : Nat}
    (hy : RowB lo2 hi2 w b lb en) (hhi2 : hi2 ≤ w.heap.size) (hm2 : lb ≤ 1000) (xs : List Int) {lo hi : Nat} (hx : Row lo hi w a la xs) (hhi : hi ≤ w.heap.size) (hm : la ≤ 1000000) (hon : on 0 en ≠ []) (hk0 : k0 < la) (x : Int) (v : Nat) (hxv : xs.getD k0 0 = x) (hv : (on 0 en).getD (x % ((on 0 en).length : Int)).toNat 0 = v) :
    Calls Tryd.prog 45 #[.agg #[.slice a la ca, .int .i64 k0, .int .i64 l], .slice b lb cb] w fun e w' => e = .returned (.agg #[.int .i64 (v : Nat), .slice a la ca, .int .i64 (k0 + 1), .int .i64 (v : Nat)]) ∧ Below w.heap.size w w' := by
  have hg0 : ∀ o o', Below w.heap.size w ((w.alloc o).alloc o') := fun o o' => by go_grown
  have b1 := (Box.new w 88 [.slice a la ca, .int .i64 k0, .int .i64 l]).alloc (.cells #[.int .i64 0, .slice none 0 0, .int .i64 0, .int .i64 0] 91)
  have b2 := Box.new (w.alloc (.cells #[.slice a la ca, .int .i64 k0, .int .i64 l] 88)) 91 [.int .i64 0, .slice none 0 0, .int .i64 0, .int .i64 0]
  rw [World.size_alloc] at b2
  obtain ⟨i0, hi0, hz0, hz1, hz2⟩ := info_parts Tryd.info3
  have hpos : 1 ≤ (on 0 en).length := by cases h : on 0 en with
    | nil => exact absurd h hon
    | cons _ _ => simp
  have hcnt : (((on 0 en).length : Int) == 0) = false := by simp; omega
  have HL := Lib.hid hy.1
  have HY := Lib.hid hy.2
  have HXV := Lib.hid hxv
  have HV := Lib.hid hv
  have HX := Lib.hid hx
  clear hon hxv hv hx
  clear hy
  go_enter Tryd.func45, Tryd.ntmps45
  go_wp2_with fail
  go_loopw [5, 6] (fun v i wr => ∃ k : Nat, k ≤ lb ∧ i = .int .i64 k ∧ wr.ownsRow (w.heap.size + 2) 3 1 v (on 0 (en.take k)).length ((on 0 (en.take k)).map (fun x : Nat => Value.int .i64 x)) ∧
      Box wr w.heap.size 88 [.slice a la ca, .int .i64 k0, .int .i64 l] ∧ Box wr (w.heap.size + 1) 91 [.int .i64 0, .slice none 0 0, .int .i64 0, .int .i64 0] ∧
      Below w.heap.size w wr) (fun _ i _ => lb - (intOf i).toNat)
  case atStart => exact ⟨0, Nat.zero_le _, rfl, World.ownsRow_nil _ _ _ _, b1, b2, hg0 _ _⟩
  case round =>
    clear b1 b2
    obtain ⟨k, hk, rfl, hown, B1, B2, hbw⟩ := hrel
    have hszr := hbw.size
    have hbl := B2.lt
    by_cases hlt : k < lb
    · obtain ⟨b', off', rfl, _, hbb, hcc⟩ := HY.out.resolve_left (by omega)
      have hck := (hbw.cell (p := ⟨b', off' + k, none⟩) (by show b' < _; omega)).trans (hcc k hlt)
      have hb0 : b' < wr.heap.size := by omega
      have hol := on_length_le (en.take k) 0
      have htl : (en.take k).length ≤ 1000 := by simp; omega
      have hts := on_take_succ en k (by rw [HL.out]; exact hlt)
      clear hcc
      by_cases ht : en.getD k false = true
      · rw [ht] at hck hts
        simp only [if_true] at hts
        have HTS := Lib.hid hts
        clear hts ht
        go_wp2_with (at_builtin; refine wpList_append_own _ rfl _ _ 22 rfl (w.heap.size + 2) 3 i0 (.int .i64 0) 1 8 Tryd.underlying22 hi0 hz0 hz1 hz2 rfl (by decide) _ (on 0 (en.take k)).length _ rfl (hown.alloc _) ⟨wr.heap.size, 0, none⟩ 1 1 [.int .i64 k] rfl rfl ?c1 ?c2 ?c3 ?c4 ?c5 ?_)
        case c1 =>
          intro j u hj
          match j, hj with
          | 0, hj => simp at hj; subst hj; simp [Addr.add]
        case c2 => intro u hu; simp at hu; subst hu; rfl
        case c3 => unfold maxLen; omega
        case c4 => omega
        case c5 => simp; omega
        intro v' w4 hown4 hgr4 _
        have hvb : ∀ j, u5.ownBlock = some j → w.heap.size + 2 ≤ j ∧ j < wr.heap.size := hown.lt
        have hne : ∀ j, j < w.heap.size + 2 ∨ wr.heap.size ≤ j → some j ≠ u5.ownBlock := fun j hj e => by have := hvb j e.symm; omega
        have B14 := (B1.alloc _).grown hgr4 (hne _ (by omega))
        have B24 := (B2.alloc _).grown hgr4 (hne _ (by omega))
        have hb4 : Below w.heap.size w w4 := (hbw.alloc (by omega) _).grown hgr4 (by simp; omega) (fun j hj => by have := hvb j hj; omega)
        clear hgr4 hvb hne
        go_wp2_with fail
        go_roundw
        case rel => exact ⟨k + 1, by omega, by go_num, by rw [HTS.out]; simpa using hown4, B14, B24, hb4⟩
        case measure => simp [intOf]; omega
      · have ht : en.getD k false = false := by simpa using ht
        rw [ht] at hck hts
        simp at hts
        have HTS := Lib.hid hts
        clear hts ht
        go_wp2_with fail
        go_roundw
        case rel => exact ⟨k + 1, by omega, by go_num, by rw [HTS.out]; exact hown, B1, B2, hbw⟩
        case measure => simp [intOf]; omega
    · obtain rfl : k = lb := by omega
      have hte : en.take k = en := List.take_of_length_le (by rw [HL.out]; exact Nat.le_refl _)
      rw [hte] at hown
      obtain ⟨a5, c5, hv5, hr5⟩ := RowF.of_owns (f := fun x : Nat => Value.int .i64 x) (d := 0) (xs := on 0 en) hown
      have hle := on_length_le en 0
      have hle1 : (on 0 en).length ≤ 1000 := by have := HL.out; omega
      subst hv5
      obtain ⟨_, _, _, _, _, _⟩ := B1.three
      have F0 := B2.frozen 0
      have F1 := B2.frozen 1
      have F2 := B2.frozen 2
      have F3 := B2.frozen 3
      have C0 := B2.cell 0
      have C1 := B2.cell 1
      have C2 := B2.cell 2
      have C3 := B2.cell 3
      simp only [List.getElem?_cons_zero, List.getElem?_cons_succ] at C0 C1 C2 C3
      clear hown hte hle
      obtain ⟨b6, off6, rfl, _, hbb6, hcc6⟩ := HX.out.2.resolve_left (by omega)
      have hck6 := (hbw.cell (p := ⟨b6, off6 + k0, none⟩) (by show b6 < _; omega)).trans (hcc6 k0 hk0)
      rw [HXV.out] at hck6
      have hb6 : b6 < wr.heap.size := by omega
      obtain ⟨b7, off7, rfl, _, hbb7, hcc7⟩ := hr5.2.resolve_left (by omega)
      have ht0 := Int.lt_tmod_of_pos x (by omega : (0 : Int) < ((on 0 en).length : Int))
      have ht1 := Int.tmod_lt_of_pos x (by omega : (0 : Int) < ((on 0 en).length : Int))
      have he0 := Int.emod_nonneg x (by omega : ((on 0 en).length : Int) ≠ 0)
      have he1 := Int.emod_lt_of_pos x (by omega : (0 : Int) < ((on 0 en).length : Int))
      have hidx : (x.tmod ((on 0 en).length : Int) + ((on 0 en).length : Int)) % ((on 0 en).length : Int) = (((x % ((on 0 en).length : Int)).toNat : Nat) : Int) := by
        rw [Int.add_emod_right, ← tmod_emod]; omega
      have hjn : (x % ((on 0 en).length : Int)).toNat < (on 0 en).length := by omega
      have hck7 := hcc7 _ hjn
      rw [HV.out] at hck7
      generalize (x % ((on 0 en).length : Int)).toNat = j at hidx hjn hck7
      have hb7 : b7 < wr.heap.size := by omega
      clear hcc6 hcc7 he0 he1 hr5
      have T1 : Sem.run Tryd.prog (Instr.indexAt 22 (.slice (some ⟨b6, off6, none⟩) la ca) (.int .i64 (k0:Int))) wr = .ok (.pointer (some ⟨b6, off6 + k0, none⟩)) wr := by go_simp
      have T2 : Sem.run Tryd.prog (Instr.indexAt 22 (.slice (some ⟨b7, off7, none⟩) (on 0 en).length c5) (.int .i64 (j:Int))) wr = .ok (.pointer (some ⟨b7, off7 + j, none⟩)) wr := by go_simp
      go_wp2_with fail
      refine bodyPost_ret (v := .agg #[.int .i64 (v : Nat), .slice (some ⟨b6, off6, none⟩) la ca, .int .i64 (k0 + 1), .int .i64 (v : Nat)]) (by simp only [results, Tryd.results45]; go_simp) rfl ⟨rfl, ?_⟩
      exact (((((hbw.setCell (by simp) _).setCell (by simp) _).setCell (by simp) _).setCell (by simp) _).setCell (by simp) _).setCell (by simp) _

set_option maxRecDepth 100000 in
set_option maxHeartbeats 1000000 in
theorem pick_lo (a b : Option Addr) (la ca lb cb : Nat) (en : List Bool) (p : Int) (l : Int) (w : World) {lo2 hi2 : Nat}
    (hy : RowB lo2 hi2 w b lb en) (hhi2 : hi2 ≤ w.heap.size) (hm2 : lb ≤ 1000) (hp : p < 0) (hon : on 0 en ≠ []) (v : Nat) (hv : behindI en l = v) :
    Calls Tryd.prog 45 #[.agg #[.slice a la ca, .int .i64 p, .int .i64 l], .slice b lb cb] w fun e w' => e = .returned (.agg #[.int .i64 (v : Nat), .slice a la ca, .int .i64 p, .int .i64 (v : Nat)]) ∧ Below w.heap.size w w' := by
  have hg0 : ∀ o o', Below w.heap.size w ((w.alloc o).alloc o') := fun o o' => by go_grown
  have b1 := (Box.new w 88 [.slice a la ca, .int .i64 p, .int .i64 l]).alloc (.cells #[.int .i64 0, .slice none 0 0, .int .i64 0, .int .i64 0] 91)
  have b2 := Box.new (w.alloc (.cells #[.slice a la ca, .int .i64 p, .int .i64 l] 88)) 91 [.int .i64 0, .slice none 0 0, .int .i64 0, .int .i64 0]
  rw [World.size_alloc] at b2
  obtain ⟨i0, hi0, hz0, hz1, hz2⟩ := info_parts Tryd.info3
  have hpos : 1 ≤ (on 0 en).length := by cases h : on 0 en with
    | nil => exact absurd h hon
    | cons _ _ => simp
  have hcnt : (((on 0 en).length : Int) == 0) = false := by simp; omega
  have HL := Lib.hid hy.1
  have HY := Lib.hid hy.2
  have HV := Lib.hid hv
  clear hon hv
  clear hy
  go_enter Tryd.func45, Tryd.ntmps45
  go_wp2_with fail
  go_loopw [5, 6] (fun v i wr => ∃ k : Nat, k ≤ lb ∧ i = .int .i64 k ∧ wr.ownsRow (w.heap.size + 2) 3 1 v (on 0 (en.take k)).length ((on 0 (en.take k)).map (fun x : Nat => Value.int .i64 x)) ∧
      Box wr w.heap.size 88 [.slice a la ca, .int .i64 p, .int .i64 l] ∧ Box wr (w.heap.size + 1) 91 [.int .i64 0, .slice none 0 0, .int .i64 0, .int .i64 0] ∧
      Below w.heap.size w wr) (fun _ i _ => lb - (intOf i).toNat)
  case atStart => exact ⟨0, Nat.zero_le _, rfl, World.ownsRow_nil _ _ _ _, b1, b2, hg0 _ _⟩
  case round =>
    clear b1 b2
    obtain ⟨k, hk, rfl, hown, B1, B2, hbw⟩ := hrel
    have hszr := hbw.size
    have hbl := B2.lt
    by_cases hlt : k < lb
    · obtain ⟨b', off', rfl, _, hbb, hcc⟩ := HY.out.resolve_left (by omega)
      have hck := (hbw.cell (p := ⟨b', off' + k, none⟩) (by show b' < _; omega)).trans (hcc k hlt)
      have hb0 : b' < wr.heap.size := by omega
      have hol := on_length_le (en.take k) 0
      have htl : (en.take k).length ≤ 1000 := by simp; omega
      have hts := on_take_succ en k (by rw [HL.out]; exact hlt)
      clear hcc
      by_cases ht : en.getD k false = true
      · rw [ht] at hck hts
        simp only [if_true] at hts
        have HTS := Lib.hid hts
        clear hts ht
        go_wp2_with (at_builtin; refine wpList_append_own _ rfl _ _ 22 rfl (w.heap.size + 2) 3 i0 (.int .i64 0) 1 8 Tryd.underlying22 hi0 hz0 hz1 hz2 rfl (by decide) _ (on 0 (en.take k)).length _ rfl (hown.alloc _) ⟨wr.heap.size, 0, none⟩ 1 1 [.int .i64 k] rfl rfl ?c1 ?c2 ?c3 ?c4 ?c5 ?_)
        case c1 =>
          intro j u hj
          match j, hj with
          | 0, hj => simp at hj; subst hj; simp [Addr.add]
        case c2 => intro u hu; simp at hu; subst hu; rfl
        case c3 => unfold maxLen; omega
        case c4 => omega
        case c5 => simp; omega
        intro v' w4 hown4 hgr4 _
        have hvb : ∀ j, u5.ownBlock = some j → w.heap.size + 2 ≤ j ∧ j < wr.heap.size := hown.lt
        have hne : ∀ j, j < w.heap.size + 2 ∨ wr.heap.size ≤ j → some j ≠ u5.ownBlock := fun j hj e => by have := hvb j e.symm; omega
        have B14 := (B1.alloc _).grown hgr4 (hne _ (by omega))
        have B24 := (B2.alloc _).grown hgr4 (hne _ (by omega))
        have hb4 : Below w.heap.size w w4 := (hbw.alloc (by omega) _).grown hgr4 (by simp; omega) (fun j hj => by have := hvb j hj; omega)
        clear hgr4 hvb hne
        go_wp2_with fail
        go_roundw
        case rel => exact ⟨k + 1, by omega, by go_num, by rw [HTS.out]; simpa using hown4, B14, B24, hb4⟩
        case measure => simp [intOf]; omega
      · have ht : en.getD k false = false := by simpa using ht
        rw [ht] at hck hts
        simp at hts
        have HTS := Lib.hid hts
        clear hts ht
        go_wp2_with fail
        go_roundw
        case rel => exact ⟨k + 1, by omega, by go_num, by rw [HTS.out]; exact hown, B1, B2, hbw⟩
        case measure => simp [intOf]; omega
    · obtain rfl : k = lb := by omega
      have hte : en.take k = en := List.take_of_length_le (by rw [HL.out]; exact Nat.le_refl _)
      rw [hte] at hown
      obtain ⟨a5, c5, hv5, hr5⟩ := RowF.of_owns (f := fun x : Nat => Value.int .i64 x) (d := 0) (xs := on 0 en) hown
      have hle := on_length_le en 0
      have hle1 : (on 0 en).length ≤ 1000 := by have := HL.out; omega
      subst hv5
      obtain ⟨_, _, _, _, _, _⟩ := B1.three
      have F0 := B2.frozen 0
      have F1 := B2.frozen 1
      have F2 := B2.frozen 2
      have F3 := B2.frozen 3
      have C0 := B2.cell 0
      have C1 := B2.cell 1
      have C2 := B2.cell 2
      have C3 := B2.cell 3
      simp only [List.getElem?_cons_zero, List.getElem?_cons_succ] at C0 C1 C2 C3
      clear hown hte hle
      obtain ⟨b7, off7, rfl, _, hbb7, hcc7⟩ := hr5.2.resolve_left (by omega)
      have hb7 : b7 < wr.heap.size := by omega
      have H7 := Lib.hid hcc7
      clear hcc7 hr5
      go_wp2_with fail
      go_loopw [8] (fun i wq => ∃ m q : Nat, i = .int .i64 m ∧ m ≤ (on 0 en).length ∧ wq = wr.drewN q ∧ Hid (∀ x ∈ (on 0 en).take m, (x : Int) ≤ l)) (fun i _ => (on 0 en).length - (intOf i).toNat)
      case atStart => exact ⟨0, 0, rfl, Nat.zero_le _, rfl, by simp [Hid]⟩
      case round =>
        obtain ⟨m, q, rfl, hmn, rfl, hp⟩ := hrel
        by_cases hlm : m < (on 0 en).length
        · have hcm := H7.out m hlm
          obtain ⟨y, hy⟩ : ∃ y, (on 0 en).getD m 0 = y := ⟨_, rfl⟩
          rw [hy] at hcm
          have hy1 : y ≤ 1000 := by
            have hmem : y ∈ on 0 en := by rw [← hy, List.getD_eq_getElem?_getD, List.getElem?_eq_getElem hlm]; simp
            have := on_range en 0 y hmem; have := HL.out; omega
          have HY2 := Lib.hid hy
          clear hy
          have T2 : ∀ W, Sem.run Tryd.prog (Instr.indexAt 22 (.slice (some ⟨b7, off7, none⟩) (on 0 en).length c5) (.int .i64 (m:Int))) W = .ok (.pointer (some ⟨b7, off7 + m, none⟩)) W := fun W => by go_simp
          by_cases hyl : (y : Int) ≤ l
          · go_wp2_with fail
            go_quiet (fail)
            go_wp2_with fail
            go_roundw
            case rel => exact ⟨m + 1, _, by go_num, by omega, by first | rfl | exact World.drewN_drewN _ _ _, take_le_succ _ _ _ _ hlm hp.out HY2.out hyl⟩
            case measure => simp [intOf]; omega
          · have hye : v = y := by
              have := behind_found en l m y hlm hp.out HY2.out (by omega)
              rw [HV.out] at this; omega
            have hn0 : ((m : Int) == ((on 0 en).length : Int)) = false := by simp; omega
            subst hye
            go_wp2_with fail
            go_quiet (fail)
            go_wp2_with fail
            refine bodyPost_ret (v := .agg #[.int .i64 (v : Nat), .slice a la ca, .int .i64 p, .int .i64 (v : Nat)]) (by simp only [results, Tryd.results45]; go_simp) rfl ⟨rfl, ?_⟩
            exact (((((below_drewN hbw _).setCell (by simp) _).setCell (by simp) _).setCell (by simp) _).setCell (by simp) _).setCell (by simp) _
        · obtain rfl : m = (on 0 en).length := by omega
          have hc0 := H7.out 0 (by omega)
          have hv0 : (on 0 en).getD 0 0 = v := by
            have := behind_round en l (by have := hp.out; rwa [List.take_of_length_le (Nat.le_refl _)] at this)
            rw [HV.out] at this; omega
          rw [hv0] at hc0
          simp only [Nat.add_zero] at hc0
          have hd : decide ((on 0 en).length < (on 0 en).length) = false := by simp
          have hn1 : (((on 0 en).length : Int) == ((on 0 en).length : Int)) = true := by simp
          have hn2 : 0 < (on 0 en).length := by omega
          have T2 : ∀ W, Sem.run Tryd.prog (Instr.indexAt 22 (.slice (some ⟨b7, off7, none⟩) (on 0 en).length c5) (.int .i64 0)) W = .ok (.pointer (some ⟨b7, off7, none⟩)) W := fun W => by go_simp
          clear hv0
          go_wp2_with fail
          go_quiet (fail)
          go_wp2_with fail
          refine bodyPost_ret (v := .agg #[.int .i64 (v : Nat), .slice a la ca, .int .i64 p, .int .i64 (v : Nat)]) (by simp only [results, Tryd.results45]; go_simp) rfl ⟨rfl, ?_⟩
          exact (((((below_drewN hbw _).setCell (by simp) _).setCell (by simp) _).setCell (by simp) _).setCell (by simp) _).setCell (by simp) _

set_option maxRecDepth 100000 in
set_option maxHeartbeats 1000000 in
theorem pick_hi (a b : Option Addr) (la ca lb cb : Nat) (en : List Bool) (p : Int) (l : Int) (w : World) {lo2 hi2 : Nat}
    (hy : RowB lo2 hi2 w b lb en) (hhi2 : hi2 ≤ w.heap.size) (hm2 : lb ≤ 1000) (hp0 : 0 ≤ p) (hp : (la : Int) ≤ p) (hon : on 0 en ≠ []) (v : Nat) (hv : behindI en l = v) :
    Calls Tryd.prog 45 #[.agg #[.slice a la ca, .int .i64 p, .int .i64 l], .slice b lb cb] w fun e w' => e = .returned (.agg #[.int .i64 (v : Nat), .slice a la ca, .int .i64 p, .int .i64 (v : Nat)]) ∧ Below w.heap.size w w' := by
  have hg0 : ∀ o o', Below w.heap.size w ((w.alloc o).alloc o') := fun o o' => by go_grown
  have b1 := (Box.new w 88 [.slice a la ca, .int .i64 p, .int .i64 l]).alloc (.cells #[.int .i64 0, .slice none 0 0, .int .i64 0, .int .i64 0] 91)
  have b2 := Box.new (w.alloc (.cells #[.slice a la ca, .int .i64 p, .int .i64 l] 88)) 91 [.int .i64 0, .slice none 0 0, .int .i64 0, .int .i64 0]
  rw [World.size_alloc] at b2
  obtain ⟨i0, hi0, hz0, hz1, hz2⟩ := info_parts Tryd.info3
  have hpos : 1 ≤ (on 0 en).length := by cases h : on 0 en with
    | nil => exact absurd h hon
    | cons _ _ => simp
  have hcnt : (((on 0 en).length : Int) == 0) = false := by simp; omega
  have HL := Lib.hid hy.1
  have HY := Lib.hid hy.2
  have HV := Lib.hid hv
  clear hon hv
  clear hy
  go_enter Tryd.func45, Tryd.ntmps45
  go_wp2_with fail
  go_loopw [5, 6] (fun v i wr => ∃ k : Nat, k ≤ lb ∧ i = .int .i64 k ∧ wr.ownsRow (w.heap.size + 2) 3 1 v (on 0 (en.take k)).length ((on 0 (en.take k)).map (fun x : Nat => Value.int .i64 x)) ∧
      Box wr w.heap.size 88 [.slice a la ca, .int .i64 p, .int .i64 l] ∧ Box wr (w.heap.size + 1) 91 [.int .i64 0, .slice none 0 0, .int .i64 0, .int .i64 0] ∧
      Below w.heap.size w wr) (fun _ i _ => lb - (intOf i).toNat)
  case atStart => exact ⟨0, Nat.zero_le _, rfl, World.ownsRow_nil _ _ _ _, b1, b2, hg0 _ _⟩
  case round =>
    clear b1 b2
    obtain ⟨k, hk, rfl, hown, B1, B2, hbw⟩ := hrel
    have hszr := hbw.size
    have hbl := B2.lt
    by_cases hlt : k < lb
    · obtain ⟨b', off', rfl, _, hbb, hcc⟩ := HY.out.resolve_left (by omega)
      have hck := (hbw.cell (p := ⟨b', off' + k, none⟩) (by show b' < _; omega)).trans (hcc k hlt)
      have hb0 : b' < wr.heap.size := by omega
      have hol := on_length_le (en.take k) 0
      have htl : (en.take k).length ≤ 1000 := by simp; omega
      have hts := on_take_succ en k (by rw [HL.out]; exact hlt)
      clear hcc
      by_cases ht : en.getD k false = true
      · rw [ht] at hck hts
        simp only [if_true] at hts
        have HTS := Lib.hid hts
        clear hts ht
        go_wp2_with (at_builtin; refine wpList_append_own _ rfl _ _ 22 rfl (w.heap.size + 2) 3 i0 (.int .i64 0) 1 8 Tryd.underlying22 hi0 hz0 hz1 hz2 rfl (by decide) _ (on 0 (en.take k)).length _ rfl (hown.alloc _) ⟨wr.heap.size, 0, none⟩ 1 1 [.int .i64 k] rfl rfl ?c1 ?c2 ?c3 ?c4 ?c5 ?_)
        case c1 =>
          intro j u hj
          match j, hj with
          | 0, hj => simp at hj; subst hj; simp [Addr.add]
        case c2 => intro u hu; simp at hu; subst hu; rfl
        case c3 => unfold maxLen; omega
        case c4 => omega
        case c5 => simp; omega
        intro v' w4 hown4 hgr4 _
        have hvb : ∀ j, u5.ownBlock = some j → w.heap.size + 2 ≤ j ∧ j < wr.heap.size := hown.lt
        have hne : ∀ j, j < w.heap.size + 2 ∨ wr.heap.size ≤ j → some j ≠ u5.ownBlock := fun j hj e => by have := hvb j e.symm; omega
        have B14 := (B1.alloc _).grown hgr4 (hne _ (by omega))
        have B24 := (B2.alloc _).grown hgr4 (hne _ (by omega))
        have hb4 : Below w.heap.size w w4 := (hbw.alloc (by omega) _).grown hgr4 (by simp; omega) (fun j hj => by have := hvb j hj; omega)
        clear hgr4 hvb hne
        go_wp2_with fail
        go_roundw
        case rel => exact ⟨k + 1, by omega, by go_num, by rw [HTS.out]; simpa using hown4, B14, B24, hb4⟩
        case measure => simp [intOf]; omega
      · have ht : en.getD k false = false := by simpa using ht
        rw [ht] at hck hts
        simp at hts
        have HTS := Lib.hid hts
        clear hts ht
        go_wp2_with fail
        go_roundw
        case rel => exact ⟨k + 1, by omega, by go_num, by rw [HTS.out]; exact hown, B1, B2, hbw⟩
        case measure => simp [intOf]; omega
    · obtain rfl : k = lb := by omega
      have hte : en.take k = en := List.take_of_length_le (by rw [HL.out]; exact Nat.le_refl _)
      rw [hte] at hown
      obtain ⟨a5, c5, hv5, hr5⟩ := RowF.of_owns (f := fun x : Nat => Value.int .i64 x) (d := 0) (xs := on 0 en) hown
      have hle := on_length_le en 0
      have hle1 : (on 0 en).length ≤ 1000 := by have := HL.out; omega
      subst hv5
      obtain ⟨_, _, _, _, _, _⟩ := B1.three
      have F0 := B2.frozen 0
      have F1 := B2.frozen 1
      have F2 := B2.frozen 2
      have F3 := B2.frozen 3
      have C0 := B2.cell 0
      have C1 := B2.cell 1
      have C2 := B2.cell 2
      have C3 := B2.cell 3
      simp only [List.getElem?_cons_zero, List.getElem?_cons_succ] at C0 C1 C2 C3
      clear hown hte hle
      obtain ⟨b7, off7, rfl, _, hbb7, hcc7⟩ := hr5.2.resolve_left (by omega)
      have hb7 : b7 < wr.heap.size := by omega
      have H7 := Lib.hid hcc7
      clear hcc7 hr5
      go_wp2_with fail
      go_loopw [8] (fun i wq => ∃ m q : Nat, i = .int .i64 m ∧ m ≤ (on 0 en).length ∧ wq = wr.drewN q ∧ Hid (∀ x ∈ (on 0 en).take m, (x : Int) ≤ l)) (fun i _ => (on 0 en).length - (intOf i).toNat)
      case atStart => exact ⟨0, 0, rfl, Nat.zero_le _, rfl, by simp [Hid]⟩
      case round =>
        obtain ⟨m, q, rfl, hmn, rfl, hp⟩ := hrel
        by_cases hlm : m < (on 0 en).length
        · have hcm := H7.out m hlm
          obtain ⟨y, hy⟩ : ∃ y, (on 0 en).getD m 0 = y := ⟨_, rfl⟩
          rw [hy] at hcm
          have hy1 : y ≤ 1000 := by
            have hmem : y ∈ on 0 en := by rw [← hy, List.getD_eq_getElem?_getD, List.getElem?_eq_getElem hlm]; simp
            have := on_range en 0 y hmem; have := HL.out; omega
          have HY2 := Lib.hid hy
          clear hy
          have T2 : ∀ W, Sem.run Tryd.prog (Instr.indexAt 22 (.slice (some ⟨b7, off7, none⟩) (on 0 en).length c5) (.int .i64 (m:Int))) W = .ok (.pointer (some ⟨b7, off7 + m, none⟩)) W := fun W => by go_simp
          by_cases hyl : (y : Int) ≤ l
          · go_wp2_with fail
            go_quiet (fail)
            go_wp2_with fail
            go_roundw
            case rel => exact ⟨m + 1, _, by go_num, by omega, by first | rfl | exact World.drewN_drewN _ _ _, take_le_succ _ _ _ _ hlm hp.out HY2.out hyl⟩
            case measure => simp [intOf]; omega
          · have hye : v = y := by
              have := behind_found en l m y hlm hp.out HY2.out (by omega)
              rw [HV.out] at this; omega
            have hn0 : ((m : Int) == ((on 0 en).length : Int)) = false := by simp; omega
            subst hye
            go_wp2_with fail
            go_quiet (fail)
            go_wp2_with fail
            refine bodyPost_ret (v := .agg #[.int .i64 (v : Nat), .slice a la ca, .int .i64 p, .int .i64 (v : Nat)]) (by simp only [results, Tryd.results45]; go_simp) rfl ⟨rfl, ?_⟩
            exact (((((below_drewN hbw _).setCell (by simp) _).setCell (by simp) _).setCell (by simp) _).setCell (by simp) _).setCell (by simp) _
        · obtain rfl : m = (on 0 en).length := by omega
          have hc0 := H7.out 0 (by omega)
          have hv0 : (on 0 en).getD 0 0 = v := by
            have := behind_round en l (by have := hp.out; rwa [List.take_of_length_le (Nat.le_refl _)] at this)
            rw [HV.out] at this; omega
          rw [hv0] at hc0
          simp only [Nat.add_zero] at hc0
          have hd : decide ((on 0 en).length < (on 0 en).length) = false := by simp
          have hn1 : (((on 0 en).length : Int) == ((on 0 en).length : Int)) = true := by simp
          have hn2 : 0 < (on 0 en).length := by omega
          have T2 : ∀ W, Sem.run Tryd.prog (Instr.indexAt 22 (.slice (some ⟨b7, off7, none⟩) (on 0 en).length c5) (.int .i64 0)) W = .ok (.pointer (some ⟨b7, off7, none⟩)) W := fun W => by go_simp
          clear hv0
          go_wp2_with fail
          go_quiet (fail)
          go_wp2_with fail
          refine bodyPost_ret (v := .agg #[.int .i64 (v : Nat), .slice a la ca, .int .i64 p, .int .i64 (v : Nat)]) (by simp only [results, Tryd.results45]; go_simp) rfl ⟨rfl, ?_⟩
          exact (((((below_drewN hbw _).setCell (by simp) _).setCell (by simp) _).setCell (by simp) _).setCell (by simp) _).setCell (by simp) _

end Go.Proofs.YtpfcpeljfgmjgaaDoor

namespace Go.Proofs.YtpfcpeljfgmjgaaDoor
open Go.RowKit

/-- The document's Pick, whatever is handed in. -/
theorem pick_any (a b : Option Addr) (la ca lb cb : Nat) (xs : List Int) (en : List Bool) (p l : Int) (w : World) {lo hi lo2 hi2 : Nat} (hx : Row lo hi w a la xs) (hhi : hi ≤ w.heap.size) (hm : la ≤ 1000000)
    (hy : RowB lo2 hi2 w b lb en) (hhi2 : hi2 ≤ w.heap.size) (hm2 : lb ≤ 1000) :
    Calls Tryd.prog 45 #[.agg #[.slice a la ca, .int .i64 p, .int .i64 l], .slice b lb cb] w fun e w' => e = .returned (.agg #[.int .i64 (nextI xs p l en), .slice a la ca, .int .i64 (nextAt xs p en), .int .i64 (nextLast xs p l en)]) ∧ Below w.heap.size w w' := by
  have hl : xs.length = la := hx.1
  by_cases hon : on 0 en = []
  · rw [show nextI xs p l en = -1 by simp [nextI, hon], show nextAt xs p en = p by simp [nextAt, hon], show nextLast xs p l en = l by simp [nextLast, hon]]
    exact pick_none a b la ca lb cb en p l w hy hhi2 hm2 hon
  · by_cases hp : 0 ≤ p ∧ p < la
    · obtain ⟨k, rfl⟩ : ∃ k : Nat, p = k := ⟨p.toNat, by omega⟩
      have hk : k < la := by omega
      rw [show nextAt xs k en = k + 1 by simp [nextAt, hon, hl, hk], show nextLast xs k l en = nextI xs k l en by simp [nextLast, hon]]
      rw [show nextI xs k l en = ((on 0 en).getD (xs.getD k 0 % ((on 0 en).length : Int)).toNat 0 : Nat) by simp [nextI, hon, hl, hk]]
      exact pick_hit a b la ca lb cb en k l w hy hhi2 hm2 xs hx hhi hm hon hk _ _ rfl rfl
    · obtain ⟨v, hv⟩ : ∃ v : Nat, behindI en l = v := by
        unfold behindI
        split
        · exact ⟨_, rfl⟩
        · exact ⟨_, rfl⟩
      rw [show nextAt xs p en = p by simp only [nextAt, hon, hl, if_false, if_neg hp], show nextLast xs p l en = nextI xs p l en by simp [nextLast, hon]]
      rw [show nextI xs p l en = behindI en l by simp only [nextI, hon, hl, if_false, if_neg hp], hv]
      by_cases hp0 : p < 0
      · exact pick_lo a b la ca lb cb en p l w hy hhi2 hm2 hp0 hon v hv
      · exact pick_hi a b la ca lb cb en p l w hy hhi2 hm2 (by omega) (by omega) hon v hv

end Go.Proofs.YtpfcpeljfgmjgaaDoor
