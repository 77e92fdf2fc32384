/- Contract of package pick's behind. Contract of package pick's Next. Contracts of package crew: By, Next; how turns lie in memory. Mathematics of workers, two: what they did stands one behind the other, each at its place; what is left is what all unitings make. No program. Mathematics of workers, three: each worker's operations have their events in their order; what is left is the partition of all unitings, whoever was picked. No program. Contract of package play's Play. Contract of the statements' Scripts: scripts by numbers. Contract of the statements' awake of layer 5. How a slice of integers, of bools, that came in as an argument is read. How slices of bytes, and an operation, that came in as arguments are read. How arguments of layer 5's laws are read: slices of slices of bytes; the room of a slice of ints. Contracts of there, Same, Classes of package part and of the document. Contracts of Unite of package part and of the document. Contract of the document's Unite. -/
import Derived.Test.YthhcchdjeeigpaaDoorSet
import Derived.Test.YthhcchdjeeigpaaDoorSetof
import Derived.Test.YthhcchdjeeigpaaDoorTwo
import Derived.Test.YthhcchdjeeigpaaDoorWhom
import Derived.Deep.RegionHeld3
import Derived.Deep.DeepCutAuto
import Derived.Deep.CutRange
import Derived.Test.YthhcchdjeeigpaaDoorPlaym
import Derived.Test.YthhcchdjeeigpaaDoorPartm
import Derived.Test.YthhcchdjeeigpaaDoorMem
import Derived.Test.YthhcchdjeeigpaaDoorPe
import Derived.Deep.QuietTactic
import Derived.Test.YthhcchdjeeigpaaDoorPg
import Derived.Test.YthhcchdjeeigpaaDoorCops
import Derived.Deep.AppendLies
import Derived.Test.YthhcchdjeeigpaaDoorBase
import Derived.ProofKit
import Derived.OpenShut
import Derived.Lib.SmallJoins
import Derived.Deep.Grids
import Derived.Test.YthhcchdjeeigpaaDoorCaw
import Derived.Deep.Matrix
import Derived.Test.YthhcchdjeeigpaaDoorCsmall
import Derived.Test.YthhcchdjeeigpaaDoorInts
import Derived.Test.YthhcchdjeeigpaaDoorCrow
namespace Go.Proofs.YthhcchdjeeigpaaDoor
open Go.RowKit

theorem behind_any (a : Option Addr) (n c : Nat) (en : List Bool) (last : Int) (w : World) (h : Holds w a n en) (hen : en.length ≤ 1000) (hT : Tab w) (hon : on 0 en ≠ []) :
    Calls Tryd.prog 78 #[.slice a n c, .int .i64 last] w fun e w' => e = .returned (.int .i64 (behindI en last)) ∧ w = w' := by
  have HL := Lib.hid h.len
  by_cases h0 : last < 0
  · rw [behind_low en last hon h0]
    go_enter Tryd.func78, Tryd.ntmps78
    go_wp2_with (go_at_call 90; refine (from_any a n c en 0 0 rfl _ h hen hT (by omega)).mono ?_; rintro e w1 ⟨rfl, rfl⟩)
    go_ret
    exact ⟨rfl, rfl⟩
  · obtain ⟨k, rfl⟩ : ∃ k : Nat, last = k := ⟨last.toNat, by omega⟩
    by_cases hk : k / 64 < n
    · have hm := behind_mid en k hon
      have hr := from_range en (k + 1)
      have hn : n ≤ 17 := by have := HL.out; omega
      by_cases hf : 0 ≤ from' en (k + 1)
      · rw [if_pos hf] at hm
        rw [hm]
        generalize hgen : from' en (k + 1) = f at *
        have HG := Lib.hid hgen
        clear hm hgen
        have hk64 : (k : Int) / 64 < n := by omega
        go_enter Tryd.func78, Tryd.ntmps78
        go_wp2_with (go_at_call 90; refine (from_any a n c en _ (k + 1) (by simp) _ h hen hT (by omega)).mono ?_; rw [HG.out]; rintro e w1 ⟨rfl, rfl⟩)
        go_ret
        exact ⟨rfl, rfl⟩
      · rw [if_neg hf] at hm
        rw [hm]
        have hfe : from' en (k + 1) = -1 := by omega
        have HG := Lib.hid hfe
        clear hm hfe hr hf
        have hk64 : (k : Int) / 64 < n := by omega
        go_enter Tryd.func78, Tryd.ntmps78
        go_wp2_with fail
        refine (from_any a n c en _ (k + 1) (by simp) _ h hen hT (by omega)).mono ?_
        rw [HG.out]; rintro e w1 ⟨rfl, rfl⟩
        go_wp2_with fail
        refine (from_any a n c en 0 0 rfl _ h hen hT (by omega)).mono ?_
        rintro e w1 ⟨rfl, rfl⟩
        go_wp2
        go_ret
        exact ⟨rfl, rfl⟩
    · rw [behind_high en k hon (by have := HL.out; omega)]
      have hk64 : ¬ (k : Int) / 64 < n := by omega
      go_enter Tryd.func78, Tryd.ntmps78
      go_wp2_with (go_at_call 90; refine (from_any a n c en 0 0 rfl _ h hen hT (by omega)).mono ?_; rintro e w1 ⟨rfl, rfl⟩)
      go_ret
      exact ⟨rfl, rfl⟩

end Go.Proofs.YthhcchdjeeigpaaDoor

namespace Go.Proofs.YthhcchdjeeigpaaDoor
open Go.RowKit

/-- Who is next, and what the picks are behind it. -/
def nextI (xs : List Int) (p l : Int) (en : List Bool) : Int :=
  if on 0 en = [] then -1 else if 0 ≤ p ∧ p < xs.length then ((on 0 en).getD (xs.getD p.toNat 0 % (on 0 en).length).toNat 0 : Nat) else behindI en l
def nextAt (xs : List Int) (p : Int) (en : List Bool) : Int := if on 0 en = [] then p else if 0 ≤ p ∧ p < xs.length then p + 1 else p
def nextLast (xs : List Int) (p l : Int) (en : List Bool) : Int := if on 0 en = [] then l else nextI xs p l en

theorem nth_int (a : Option Addr) (n c : Nat) (en : List Bool) (K : Int) (w : World) (h : Holds w a n en) (hen : en.length ≤ 1000) (hT : Tab w) (h0 : 0 ≤ K) (hk : K < (on 0 en).length) :
    Calls Tryd.prog 76 #[.slice a n c, .int .i64 K] w fun e w' => e = .returned (.int .i64 ((on 0 en).getD K.toNat 0 : Nat)) ∧ w = w' := by
  obtain ⟨k, rfl⟩ : ∃ k : Nat, K = k := ⟨K.toNat, by omega⟩
  exact nth_any a n c en k w h hen hT (by omega)

set_option maxRecDepth 100000 in
set_option maxHeartbeats 1000000 in
theorem Next_none (a b : Option Addr) (la ca lb cb : Nat) (xs : List Int) (en : List Bool) (p l : Int) (w : World) {lo hi lo2 hi2 : Nat} (hx : Row lo hi w a la xs) (hhi : hi ≤ w.heap.size) (hm : la ≤ 1000000)
    (hy : RowB lo2 hi2 w b lb en) (hhi2 : hi2 ≤ w.heap.size) (hm2 : lb ≤ 1000) (hon : on 0 en = []) :
    Calls Tryd.prog 57 #[.agg #[.slice a la ca, .int .i64 p, .int .i64 l], .slice b lb cb] w fun e w' => ∃ a' c', e = .returned (.tuple #[.int .i64 (-1), .agg #[.slice a' la c', .int .i64 p, .int .i64 l]]) ∧ Row w.heap.size w'.heap.size w' a' la xs ∧ Below w.heap.size w w' := by
  have hg0 : ∀ o o', Below w.heap.size w ((w.alloc o).alloc o') := fun o o' => by go_grown
  have b1 := (Box.new w 94 [.slice a la ca, .int .i64 p, .int .i64 l]).alloc (.cells #[.slice none 0 0, .int .i64 0, .int .i64 0] 94)
  have b2 := Box.new (w.alloc (.cells #[.slice a la ca, .int .i64 p, .int .i64 l] 94)) 94 [.slice none 0 0, .int .i64 0, .int .i64 0]
  rw [World.size_alloc] at b2
  have hlen : en.length = lb := hy.1
  have hcnt : (((on 0 en).length : Int) == 0) = true := by rw [hon]; rfl
  have HL := Lib.hid hlen
  clear hlen hon
  go_enter Tryd.func57, Tryd.ntmps57
  go_wp2_with fail
  refine (clone_any _ _ _ xs _ (hx.below (hg0 _ _) hhi) (by simp; omega) hm).mono ?_
  rintro e w1 ⟨a', c', rfl, hr, hb⟩
  have s1 := hb.size
  rw [World.size_alloc, World.size_alloc] at s1
  have B1 := (b1.below hb).set 0 (.slice a' la c')
  have B2 := (b2.below hb).setOther (a := ⟨w.heap.size, 0, none⟩) (by simp) (.slice a' la c')
  have hr1 := (hr.mono (by simp) (Nat.le_refl _) : Row (w.heap.size + 2) w1.heap.size w1 a' la xs).set (p := ⟨w.heap.size, 0, none⟩) (.inl (by simp)) (.slice a' la c')
  have hb1 := ((hg0 (.cells #[.slice a la ca, .int .i64 p, .int .i64 l] 94) (.cells #[.slice none 0 0, .int .i64 0, .int .i64 0] 94)).trans (hb.mono (by simp; omega))).setCell (p := ⟨w.heap.size, 0, none⟩) (by simp) (.slice a' la c')
  have s2 : (w1.setCell ⟨w.heap.size, 0, none⟩ (.slice a' la c')).heap.size = w1.heap.size := by simp
  obtain ⟨_, _, _, _, _, _⟩ := ((b1.below hb)).three
  go_wp2_with fail
  generalize hw2 : w1.setCell ⟨w.heap.size, 0, none⟩ (.slice a' la c') = w2 at *
  refine (setof_any _ _ _ en _ (hy.below hb1 hhi2) (by omega) hm2).mono ?_
  rintro e w3 ⟨a3, n, c3, rfl, hset, hb3⟩
  have s3 := hb3.size
  have hr3 := hr1.below hb3 (by omega)
  have B13 := B1.below hb3
  have B23 := B2.below hb3
  have hb4 := hb1.trans (hb3.mono (by omega))
  obtain ⟨_, _, _, _, _, _⟩ := B13.three
  obtain ⟨_, _, _, _, _, _⟩ := B23.three
  clear hw2
  go_wp2_with fail
  refine (count_any _ _ _ en _ ⟨_, _, hset⟩ (by have := HL.out; omega)).mono ?_
  rintro e w4 ⟨rfl, rfl⟩
  go_wp2_with fail
  go_region
  all_goals go_wp2
  all_goals (refine bodyPost_ret (v := .tuple #[.int .i64 (-1), .agg #[.slice a' la c', .int .i64 p, .int .i64 l]]) (by simp only [results, Tryd.results57]; go_simp) rfl ⟨_, _, rfl, ?_, ?_⟩)
  · exact ((((hr3.set (.inl (by simp)) _).set (.inl (by simp)) _).set (.inl (by simp)) _).drew).mono (by omega) (by simp; omega)
  · exact (((hb4.setCell (by simp) _).setCell (by simp) _).setCell (by simp) _).drew

set_option maxRecDepth 100000 in
set_option maxHeartbeats 1000000 in
set_option maxRecDepth 100000 in
set_option maxHeartbeats 1000000 in
theorem Next_lo (a b : Option Addr) (la ca lb cb : Nat) (xs : List Int) (en : List Bool) (p l : Int) (w : World) {lo hi lo2 hi2 : Nat} (hx : Row lo hi w a la xs) (hhi : hi ≤ w.heap.size) (hm : la ≤ 1000000)
    (hy : RowB lo2 hi2 w b lb en) (hhi2 : hi2 ≤ w.heap.size) (hm2 : lb ≤ 1000) (hT : Tab w) (hon : on 0 en ≠ []) (hp : p < 0) :
    Calls Tryd.prog 57 #[.agg #[.slice a la ca, .int .i64 p, .int .i64 l], .slice b lb cb] w fun e w' => ∃ a' c', e = .returned (.tuple #[.int .i64 (behindI en l), .agg #[.slice a' la c', .int .i64 p, .int .i64 (behindI en l)]]) ∧ Row w.heap.size w'.heap.size w' a' la xs ∧ Below w.heap.size w w' := by
  have hg0 : ∀ o o', Below w.heap.size w ((w.alloc o).alloc o') := fun o o' => by go_grown
  have b1 := (Box.new w 94 [.slice a la ca, .int .i64 p, .int .i64 l]).alloc (.cells #[.slice none 0 0, .int .i64 0, .int .i64 0] 94)
  have b2 := Box.new (w.alloc (.cells #[.slice a la ca, .int .i64 p, .int .i64 l] 94)) 94 [.slice none 0 0, .int .i64 0, .int .i64 0]
  rw [World.size_alloc] at b2
  have hlen : en.length = lb := hy.1
  have hpos : 1 ≤ (on 0 en).length := by cases h : on 0 en with
    | nil => exact absurd h hon
    | cons _ _ => simp
  have hle := on_length_le en 0
  have hcnt : (((on 0 en).length : Int) == 0) = false := by simp; omega
  have HL := Lib.hid hlen
  have HON := Lib.hid hon
  have HT := Lib.hid hT
  clear hlen hon hT hle
  go_enter Tryd.func57, Tryd.ntmps57
  go_wp2_with fail
  refine (clone_any _ _ _ xs _ (hx.below (hg0 _ _) hhi) (by simp; omega) hm).mono ?_
  rintro e w1 ⟨a', c', rfl, hr, hb⟩
  have s1 := hb.size
  rw [World.size_alloc, World.size_alloc] at s1
  have B1 := (b1.below hb).set 0 (.slice a' la c')
  have B2 := (b2.below hb).setOther (a := ⟨w.heap.size, 0, none⟩) (by simp) (.slice a' la c')
  have hr1 := (hr.mono (by simp) (Nat.le_refl _) : Row (w.heap.size + 2) w1.heap.size w1 a' la xs).set (p := ⟨w.heap.size, 0, none⟩) (.inl (by simp)) (.slice a' la c')
  have hb1 := ((hg0 (.cells #[.slice a la ca, .int .i64 p, .int .i64 l] 94) (.cells #[.slice none 0 0, .int .i64 0, .int .i64 0] 94)).trans (hb.mono (by simp; omega))).setCell (p := ⟨w.heap.size, 0, none⟩) (by simp) (.slice a' la c')
  have s2 : (w1.setCell ⟨w.heap.size, 0, none⟩ (.slice a' la c')).heap.size = w1.heap.size := by simp
  obtain ⟨_, _, _, _, _, _⟩ := ((b1.below hb)).three
  go_wp2_with fail
  generalize hw2 : w1.setCell ⟨w.heap.size, 0, none⟩ (.slice a' la c') = w2 at *
  refine (setof_any _ _ _ en _ (hy.below hb1 hhi2) (by omega) hm2).mono ?_
  rintro e w3 ⟨a3, n, c3, rfl, hset, hb3⟩
  have s3 := hb3.size
  have hr3 := hr1.below hb3 (by omega)
  have B13 := B1.below hb3
  have B23 := B2.below hb3
  have hb4 := hb1.trans (hb3.mono (by omega))
  obtain ⟨_, _, _, _, _, _⟩ := B13.three
  obtain ⟨_, _, _, _, _, _⟩ := B23.three
  clear hw2
  go_wp2_with fail
  refine (count_any _ _ _ en _ ⟨_, _, hset⟩ (by have := HL.out; omega)).mono ?_
  rintro e w4 ⟨rfl, rfl⟩
  go_wp2_with fail
  go_wp2_with fail
  refine (behind_any _ _ _ en _ _ ⟨_, _, hset⟩ (by have := HL.out; omega) (HT.out.below hb4 HT.out.lt) HON.out).mono ?_
  rintro e w4 ⟨rfl, rfl⟩
  go_wp2_with fail
  go_region
  all_goals go_wp2
  all_goals (refine bodyPost_ret (v := .tuple #[.int .i64 (behindI en l), .agg #[.slice a' la c', .int .i64 p, .int .i64 (behindI en l)]]) (by simp only [results, Tryd.results57]; go_simp) rfl ⟨_, _, rfl, ?_, ?_⟩)
  · exact (((((hr3.set (.inl (by simp)) _).set (.inl (by simp)) _).set (.inl (by simp)) _).set (.inl (by simp)) _).drew).mono (by omega) (by simp; omega)
  · exact ((((hb4.setCell (by simp) _).setCell (by simp) _).setCell (by simp) _).setCell (by simp) _).drew

set_option maxRecDepth 100000 in
set_option maxHeartbeats 1000000 in
theorem Next_hi (a b : Option Addr) (la ca lb cb : Nat) (xs : List Int) (en : List Bool) (p l : Int) (w : World) {lo hi lo2 hi2 : Nat} (hx : Row lo hi w a la xs) (hhi : hi ≤ w.heap.size) (hm : la ≤ 1000000)
    (hy : RowB lo2 hi2 w b lb en) (hhi2 : hi2 ≤ w.heap.size) (hm2 : lb ≤ 1000) (hT : Tab w) (hon : on 0 en ≠ []) (hp0 : 0 ≤ p) (hp : (la : Int) ≤ p) :
    Calls Tryd.prog 57 #[.agg #[.slice a la ca, .int .i64 p, .int .i64 l], .slice b lb cb] w fun e w' => ∃ a' c', e = .returned (.tuple #[.int .i64 (behindI en l), .agg #[.slice a' la c', .int .i64 p, .int .i64 (behindI en l)]]) ∧ Row w.heap.size w'.heap.size w' a' la xs ∧ Below w.heap.size w w' := by
  have hg0 : ∀ o o', Below w.heap.size w ((w.alloc o).alloc o') := fun o o' => by go_grown
  have b1 := (Box.new w 94 [.slice a la ca, .int .i64 p, .int .i64 l]).alloc (.cells #[.slice none 0 0, .int .i64 0, .int .i64 0] 94)
  have b2 := Box.new (w.alloc (.cells #[.slice a la ca, .int .i64 p, .int .i64 l] 94)) 94 [.slice none 0 0, .int .i64 0, .int .i64 0]
  rw [World.size_alloc] at b2
  have hlen : en.length = lb := hy.1
  have hpos : 1 ≤ (on 0 en).length := by cases h : on 0 en with
    | nil => exact absurd h hon
    | cons _ _ => simp
  have hle := on_length_le en 0
  have hcnt : (((on 0 en).length : Int) == 0) = false := by simp; omega
  have HL := Lib.hid hlen
  have HON := Lib.hid hon
  have HT := Lib.hid hT
  clear hlen hon hT hle
  go_enter Tryd.func57, Tryd.ntmps57
  go_wp2_with fail
  refine (clone_any _ _ _ xs _ (hx.below (hg0 _ _) hhi) (by simp; omega) hm).mono ?_
  rintro e w1 ⟨a', c', rfl, hr, hb⟩
  have s1 := hb.size
  rw [World.size_alloc, World.size_alloc] at s1
  have B1 := (b1.below hb).set 0 (.slice a' la c')
  have B2 := (b2.below hb).setOther (a := ⟨w.heap.size, 0, none⟩) (by simp) (.slice a' la c')
  have hr1 := (hr.mono (by simp) (Nat.le_refl _) : Row (w.heap.size + 2) w1.heap.size w1 a' la xs).set (p := ⟨w.heap.size, 0, none⟩) (.inl (by simp)) (.slice a' la c')
  have hb1 := ((hg0 (.cells #[.slice a la ca, .int .i64 p, .int .i64 l] 94) (.cells #[.slice none 0 0, .int .i64 0, .int .i64 0] 94)).trans (hb.mono (by simp; omega))).setCell (p := ⟨w.heap.size, 0, none⟩) (by simp) (.slice a' la c')
  have s2 : (w1.setCell ⟨w.heap.size, 0, none⟩ (.slice a' la c')).heap.size = w1.heap.size := by simp
  obtain ⟨_, _, _, _, _, _⟩ := ((b1.below hb)).three
  go_wp2_with fail
  generalize hw2 : w1.setCell ⟨w.heap.size, 0, none⟩ (.slice a' la c') = w2 at *
  refine (setof_any _ _ _ en _ (hy.below hb1 hhi2) (by omega) hm2).mono ?_
  rintro e w3 ⟨a3, n, c3, rfl, hset, hb3⟩
  have s3 := hb3.size
  have hr3 := hr1.below hb3 (by omega)
  have B13 := B1.below hb3
  have B23 := B2.below hb3
  have hb4 := hb1.trans (hb3.mono (by omega))
  obtain ⟨_, _, _, _, _, _⟩ := B13.three
  obtain ⟨_, _, _, _, _, _⟩ := B23.three
  clear hw2
  go_wp2_with fail
  refine (count_any _ _ _ en _ ⟨_, _, hset⟩ (by have := HL.out; omega)).mono ?_
  rintro e w4 ⟨rfl, rfl⟩
  go_wp2_with fail
  go_wp2_with fail
  refine (behind_any _ _ _ en _ _ ⟨_, _, hset⟩ (by have := HL.out; omega) (HT.out.below hb4 HT.out.lt) HON.out).mono ?_
  rintro e w4 ⟨rfl, rfl⟩
  go_wp2_with fail
  go_region
  all_goals go_wp2
  all_goals (refine bodyPost_ret (v := .tuple #[.int .i64 (behindI en l), .agg #[.slice a' la c', .int .i64 p, .int .i64 (behindI en l)]]) (by simp only [results, Tryd.results57]; go_simp) rfl ⟨_, _, rfl, ?_, ?_⟩)
  · exact (((((hr3.set (.inl (by simp)) _).set (.inl (by simp)) _).set (.inl (by simp)) _).set (.inl (by simp)) _).drew).mono (by omega) (by simp; omega)
  · exact ((((hb4.setCell (by simp) _).setCell (by simp) _).setCell (by simp) _).setCell (by simp) _).drew

set_option maxRecDepth 100000 in
set_option maxHeartbeats 1000000 in
theorem Next_hit (a b : Option Addr) (la ca lb cb : Nat) (xs : List Int) (en : List Bool) (k : Nat) (l : Int) (w : World) {lo hi lo2 hi2 : Nat} (hx : Row lo hi w a la xs) (hhi : hi ≤ w.heap.size) (hm : la ≤ 1000000)
    (hy : RowB lo2 hi2 w b lb en) (hhi2 : hi2 ≤ w.heap.size) (hm2 : lb ≤ 1000) (hT : Tab w) (hon : on 0 en ≠ []) (hk : k < la) (x : Int) (v : Nat) (hxv : xs.getD k 0 = x) (hv : (on 0 en).getD (x % ((on 0 en).length : Int)).toNat 0 = v) :
    Calls Tryd.prog 57 #[.agg #[.slice a la ca, .int .i64 k, .int .i64 l], .slice b lb cb] w fun e w' => ∃ a' c', e = .returned (.tuple #[.int .i64 (v : Nat), .agg #[.slice a' la c', .int .i64 (k + 1), .int .i64 (v : Nat)]]) ∧ Row w.heap.size w'.heap.size w' a' la xs ∧ Below w.heap.size w w' := by
  have hg0 : ∀ o o', Below w.heap.size w ((w.alloc o).alloc o') := fun o o' => by go_grown
  have b1 := (Box.new w 94 [.slice a la ca, .int .i64 k, .int .i64 l]).alloc (.cells #[.slice none 0 0, .int .i64 0, .int .i64 0] 94)
  have b2 := Box.new (w.alloc (.cells #[.slice a la ca, .int .i64 k, .int .i64 l] 94)) 94 [.slice none 0 0, .int .i64 0, .int .i64 0]
  rw [World.size_alloc] at b2
  have hlen : en.length = lb := hy.1
  have hpos : 1 ≤ (on 0 en).length := by cases h : on 0 en with
    | nil => exact absurd h hon
    | cons _ _ => simp
  have hle := on_length_le en 0
  have hcnt : (((on 0 en).length : Int) == 0) = false := by simp; omega
  have HL := Lib.hid hlen
  have HON := Lib.hid hon
  have HXV := Lib.hid hxv
  have HV := Lib.hid hv
  have HT := Lib.hid hT
  clear hlen hon hT hxv hv
  go_enter Tryd.func57, Tryd.ntmps57
  go_wp2_with fail
  refine (clone_any _ _ _ xs _ (hx.below (hg0 _ _) hhi) (by simp; omega) hm).mono ?_
  rintro e w1 ⟨a', c', rfl, hr, hb⟩
  have s1 := hb.size
  rw [World.size_alloc, World.size_alloc] at s1
  have B1 := (b1.below hb).set 0 (.slice a' la c')
  have B2 := (b2.below hb).setOther (a := ⟨w.heap.size, 0, none⟩) (by simp) (.slice a' la c')
  have hr1 := (hr.mono (by simp) (Nat.le_refl _) : Row (w.heap.size + 2) w1.heap.size w1 a' la xs).set (p := ⟨w.heap.size, 0, none⟩) (.inl (by simp)) (.slice a' la c')
  have hb1 := ((hg0 (.cells #[.slice a la ca, .int .i64 k, .int .i64 l] 94) (.cells #[.slice none 0 0, .int .i64 0, .int .i64 0] 94)).trans (hb.mono (by simp; omega))).setCell (p := ⟨w.heap.size, 0, none⟩) (by simp) (.slice a' la c')
  have s2 : (w1.setCell ⟨w.heap.size, 0, none⟩ (.slice a' la c')).heap.size = w1.heap.size := by simp
  obtain ⟨_, _, _, _, _, _⟩ := ((b1.below hb)).three
  go_wp2_with fail
  generalize hw2 : w1.setCell ⟨w.heap.size, 0, none⟩ (.slice a' la c') = w2 at *
  refine (setof_any _ _ _ en _ (hy.below hb1 hhi2) (by omega) hm2).mono ?_
  rintro e w3 ⟨a3, n, c3, rfl, hset, hb3⟩
  have s3 := hb3.size
  have hr3 := hr1.below hb3 (by omega)
  have B13 := B1.below hb3
  have B23 := B2.below hb3
  have hb4 := hb1.trans (hb3.mono (by omega))
  obtain ⟨_, _, _, _, _, _⟩ := B13.three
  obtain ⟨_, _, _, _, _, _⟩ := B23.three
  clear hw2
  go_wp2_with fail
  refine (count_any _ _ _ en _ ⟨_, _, hset⟩ (by have := HL.out; omega)).mono ?_
  rintro e w4 ⟨rfl, rfl⟩
  go_wp2_with fail
  obtain ⟨b', off', rfl, _, hbb, hcc⟩ := hr3.2.resolve_left (by omega)
  have hck := hcc k hk
  have hbs : b' < w3.heap.size := by omega
  have hle1 : (on 0 en).length ≤ 1000 := by have := HL.out; omega
  rw [HXV.out] at hck
  have T1 : Sem.run Tryd.prog (Instr.indexAt 22 (.slice (some ⟨b', off', none⟩) la c') (.int .i64 (k:Int))) w3 = .ok (.pointer (some ⟨b', off' + k, none⟩)) w3 := by go_simp
  clear hcc
  go_wp2_with fail
  rw [T1]
  go_wp2_with fail
  refine (modulo_any x ((on 0 en).length : Int) _ (by omega) (by omega)).mono ?_
  rintro e w4 ⟨rfl, rfl⟩
  go_wp2_with fail
  have hm0 := Int.emod_nonneg x (by omega : ((on 0 en).length : Int) ≠ 0)
  have hm1 := Int.emod_lt_of_pos x (by omega : (0 : Int) < ((on 0 en).length : Int))
  refine (nth_int _ _ _ en _ _ ⟨_, _, hset⟩ (by have := HL.out; omega) (HT.out.below hb4 HT.out.lt) hm0 hm1).mono ?_
  rw [HV.out]
  rintro e w4 ⟨rfl, rfl⟩
  go_wp2_with fail
  go_region
  all_goals go_wp2
  all_goals (refine bodyPost_ret (v := .tuple #[.int .i64 (v : Nat), .agg #[.slice (some ⟨b', off', none⟩) la c', .int .i64 (k + 1), .int .i64 (v : Nat)]]) (by simp only [results, Tryd.results57]; go_simp) rfl ⟨_, _, rfl, ?_, ?_⟩)
  · exact (((((hr3.set (.inl (by simp)) _ |>.set (.inl (by simp)) _).set (.inl (by simp)) _).set (.inl (by simp)) _).set (.inl (by simp)) _).drew).mono (by omega) (by simp; omega)
  · exact ((((hb4.setCell (by simp) _ |>.setCell (by simp) _).setCell (by simp) _).setCell (by simp) _).setCell (by simp) _).drew


/-- Next, whatever is handed in. -/
theorem Next_any (a b : Option Addr) (la ca lb cb : Nat) (xs : List Int) (en : List Bool) (p l : Int) (w : World) {lo hi lo2 hi2 : Nat} (hx : Row lo hi w a la xs) (hhi : hi ≤ w.heap.size) (hm : la ≤ 1000000)
    (hy : RowB lo2 hi2 w b lb en) (hhi2 : hi2 ≤ w.heap.size) (hm2 : lb ≤ 1000) (hT : Tab w) :
    Calls Tryd.prog 57 #[.agg #[.slice a la ca, .int .i64 p, .int .i64 l], .slice b lb cb] w fun e w' => ∃ a' c', e = .returned (.tuple #[.int .i64 (nextI xs p l en), .agg #[.slice a' la c', .int .i64 (nextAt xs p en), .int .i64 (nextLast xs p l en)]]) ∧ Row w.heap.size w'.heap.size w' a' la xs ∧ Below w.heap.size w w' := by
  have hl : xs.length = la := hx.1
  by_cases hon : on 0 en = []
  · rw [show nextI xs p l en = -1 by simp [nextI, hon], show nextAt xs p en = p by simp [nextAt, hon], show nextLast xs p l en = l by simp [nextLast, hon]]
    exact Next_none a b la ca lb cb xs en p l w hx hhi hm hy hhi2 hm2 hon
  · by_cases hp : 0 ≤ p ∧ p < la
    · obtain ⟨k, rfl⟩ : ∃ k : Nat, p = k := ⟨p.toNat, by omega⟩
      have hk : k < la := by omega
      rw [show nextAt xs k en = k + 1 by simp [nextAt, hon, hl, hk], show nextLast xs k l en = nextI xs k l en by simp [nextLast, hon]]
      rw [show nextI xs k l en = ((on 0 en).getD (xs.getD k 0 % ((on 0 en).length : Int)).toNat 0 : Nat) by simp [nextI, hon, hl, hk]]
      exact Next_hit a b la ca lb cb xs en k l w hx hhi hm hy hhi2 hm2 hT hon hk _ _ rfl rfl
    · rw [show nextAt xs p en = p by simp only [nextAt, hon, hl, if_false, if_neg hp], show nextLast xs p l en = nextI xs p l en by simp [nextLast, hon]]
      rw [show nextI xs p l en = behindI en l by simp only [nextI, hon, hl, if_false, if_neg hp]]
      by_cases hp0 : p < 0
      · exact Next_lo a b la ca lb cb xs en p l w hx hhi hm hy hhi2 hm2 hT hon hp0
      · exact Next_hi a b la ca lb cb xs en p l w hx hhi hm hy hhi2 hm2 hT hon (by omega) (by omega)

end Go.Proofs.YthhcchdjeeigpaaDoor

namespace Go.Proofs.YthhcchdjeeigpaaDoor
open Go.RowKit
set_option linter.unusedVariables false
set_option linter.unusedSimpArgs false

/-- slices.Clone, with its room. -/
theorem clone_cap (a : Option Addr) (la ca : Nat) (xs : List Int) (w : World) {lo hi : Nat} (hx : Row lo hi w a la xs) (hhi : hi ≤ w.heap.size) (hm : la ≤ 1000000) :
    Calls Tryd.prog 73 #[.slice a la ca] w fun e w' => ∃ a' c', e = .returned (.slice a' la c') ∧ la ≤ c' ∧ Row w.heap.size w'.heap.size w' a' la xs ∧ Below w.heap.size w w' := by
  have hne := fun (w : World) (a : Option Addr) (n c : Nat) => Lib.run_eql_slice_nil (P := Tryd.prog) w 22 3 a n c 0 0 Tryd.underlying22
  cases a with
  | none =>
    have h0 : la = 0 := hx.nil_len
    subst h0
    go_enter Tryd.func73, Tryd.ntmps73
    go_wp2
    go_ret
    exact ⟨_, _, rfl, Nat.zero_le _, ⟨hx.1, .inl rfl⟩, Below.refl _ _⟩
  | some a =>
    obtain ⟨i0, hi0, hz0, hz1, hz2⟩ := info_parts Tryd.info3
    have hb0 : Below w.heap.size w (w.alloc (.cells #[] 3)) := (Below.refl _ _).alloc (Nat.le_refl _) _
    go_enter Tryd.func73, Tryd.ntmps73
    go_wp2_with (at_builtin; refine wpList_append_own _ rfl _ _ 22 rfl w.heap.size 3 i0 (.int .i64 0) 1 8 Tryd.underlying22 hi0 hz0 hz1 hz2 rfl (by decide) _ 0 [] rfl ?c0 a la ca (xs.map (Value.int .i64)) rfl ?c1 ?c2 ?c3 ?c4 ?c5 ?c6 ?_)
    case c0 => exact World.ownsRow_made w #[] 0 (Nat.le_refl _) (by decide) rfl
    case c1 => simp [hx.1]
    case c2 => exact (hx.alloc hhi _).news
    case c3 => exact ints_oneCell _ _
    case c4 => unfold maxLen; omega
    case c5 => omega
    case c6 => simp
    intro v' w1 hown hgr hnn
    have hb1 : Below w.heap.size w w1 := hb0.grown hgr (by simp) (by rintro k hk; cases hk; exact Nat.le_refl _)
    obtain ⟨a', c', rfl, hr⟩ := RowF.of_owns (f := Value.int .i64) (d := (0 : Int)) (xs := xs) (by rw [hx.1]; exact hown)
    have hc : la ≤ c' := by
      obtain ⟨_, ⟨he, h0⟩ | ⟨g, cap, cur, he, _, _, hcap, _⟩⟩ := hown
      · omega
      · cases he; omega
    clear hown hgr hnn hb0
    go_wp2
    go_ret
    rw [hx.1] at hr ⊢
    exact ⟨_, _, rfl, hc, hr, hb1⟩

theorem start_cap (a : Option Addr) (la ca : Nat) (xs : List Int) (w : World) {lo hi : Nat} (hx : Row lo hi w a la xs) (hhi : hi ≤ w.heap.size) (hm : la ≤ 1000000) :
    Calls Tryd.prog 56 #[.slice a la ca] w fun e w' => ∃ a' c', e = .returned (.agg #[.slice a' la c', .int .i64 0, .int .i64 (-1)]) ∧ la ≤ c' ∧ Row w.heap.size w'.heap.size w' a' la xs ∧ Below w.heap.size w w' := by
  have hg0 : ∀ o, Below w.heap.size w (w.alloc o) := fun o => by go_grown
  have b1 := Box.new w 94 [.slice none 0 0, .int .i64 0, .int .i64 0]
  go_enter Tryd.func56, Tryd.ntmps56
  go_wp2_with fail
  refine (clone_cap _ _ _ xs _ (hx.below (hg0 _) hhi) (by simp; omega) hm).mono ?_
  rintro e w1 ⟨a', c', rfl, hcap, hr, hb⟩
  have B1 := b1.below hb
  have s1 := hb.size
  rw [World.size_alloc] at s1
  have hb' := (hg0 (.cells #[.slice none 0 0, .int .i64 0, .int .i64 0] 94)).trans (hb.mono (by simp))
  obtain ⟨_, _, _, _, _, _⟩ := B1.three
  have HC := Lib.hid hcap
  clear hcap
  go_wp2
  refine bodyPost_ret (v := .agg #[.slice a' la c', .int .i64 0, .int .i64 (-1)]) (by simp only [results, Tryd.results56]; go_simp) rfl ⟨_, _, rfl, HC.out, ?_, ?_⟩
  · exact (((hr.set (.inl (by simp)) _).set (.inl (by simp)) _).set (.inl (by simp)) _).mono (by simp) (by simp)
  · exact ((hb'.setCell (by simp) _).setCell (by simp) _).setCell (by simp) _

/-- Turns in memory: the picks that have not been used, and who was last. -/
def Tn (w : World) (C lo hi : Nat) (xs : List Int) (t : Nat) (last : Int) : Prop :=
  ∃ a c, Box w C 129 [.slice a (xs.length - t) c, .int .i64 last] ∧ Row lo hi w a (xs.length - t) (xs.drop t) ∧ xs.length - t ≤ c ∧ hi ≤ C
theorem Tn.lt {w : World} {C lo hi t : Nat} {xs : List Int} {last : Int} (h : Tn w C lo hi xs t last) : C < w.heap.size := by
  obtain ⟨a, c, h1, _⟩ := h; exact h1.lt
theorem Tn.agree {w w' : World} {C lo hi t : Nat} {xs : List Int} {last : Int} (h : Tn w C lo hi xs t last) (hb : ∀ b, (b = C ∨ (lo ≤ b ∧ b < hi)) → w'.heap[b]? = w.heap[b]?) : Tn w' C lo hi xs t last := by
  obtain ⟨a, c, h1, h2, h3, h4⟩ := h
  exact ⟨a, c, (hb C (.inl rfl)).trans h1, h2.agree fun k h5 h6 => hb k (.inr ⟨h5, h6⟩), h3, h4⟩
theorem Tn.below {w w' : World} {C lo hi t B : Nat} {xs : List Int} {last : Int} (h : Tn w C lo hi xs t last) (hb : Below B w w') (hC : C < B) : Tn w' C lo hi xs t last :=
  h.agree fun b hb' => hb.block b (by obtain ⟨_, _, _, _, _, h4⟩ := h; rcases hb' with rfl | ⟨_, h⟩ <;> omega)

theorem by_any (a : Option Addr) (la ca : Nat) (xs : List Int) (w : World) {lo hi : Nat} (hx : Row lo hi w a la xs) (hhi : hi ≤ w.heap.size) (hm : la ≤ 1000000) :
    Calls Tryd.prog 35 #[.slice a la ca] w fun e w' => ∃ C, e = .returned (.pointer (some ⟨C, 0, none⟩)) ∧ Tn w' C w.heap.size C xs 0 (-1) ∧ w.heap.size ≤ C ∧ C < w'.heap.size ∧ Below w.heap.size w w' := by
  have hl : xs.length = la := hx.1
  have HL := Lib.hid hl
  clear hl
  go_enter Tryd.func35, Tryd.ntmps35
  go_wp2_with fail
  refine (start_cap _ _ _ xs _ hx hhi hm).mono ?_
  rintro e w1 ⟨a', c', rfl, hcap, hr, hb⟩
  have s1 := hb.size
  have HC := Lib.hid hcap
  have HR := Lib.hid hr
  have HB := Lib.hid hb
  clear hcap hr hb
  go_wp2
  go_ret
  refine ⟨w1.heap.size + 1, rfl, ⟨a', c', ?_, ?_, ?_, ?_⟩, by omega, by simp, (HB.out.alloc s1 _).alloc (by simp; omega) _⟩
  · rw [HL.out]
    have := Box.new (w1.alloc (.cells #[.slice a' la c', .int .i64 0, .int .i64 (-1)] 94)) 129 [.slice a' la c', .int .i64 (-1)]
    rw [World.size_alloc] at this
    exact this
  · rw [HL.out]
    exact ((HR.out.alloc (Nat.le_refl _) _).alloc (by simp) _).mono (Nat.le_refl _) (by omega)
  · rw [HL.out]; exact HC.out
  · omega

/-- A cut of a slice at its front, and one behind so many. -/
theorem run_head_any {P : Program} {t : TypeId} (ht : P.underlying t = some (.slice (P.elem t))) (hs : (P.info? (P.elem t)).map (fun i => i.size) = some 1) (a : Option Addr) (n cap m : Nat) (hm : m ≤ n) (hn : n ≤ cap) :
    ∃ a', (∀ b off, a = some ⟨b, off, none⟩ → 0 < m → a' = some ⟨b, off, none⟩) ∧ ∀ w, Sem.run P (Instr.slice t (.slice a n cap) none (some (.int .i64 (m : Int))) none) w = .ok (.slice a' m cap) w := by
  refine ⟨if cap = 0 then a else a.map (·.add 0), fun b off h hm0 => ?_, fun w => ?_⟩
  · subst h; rw [if_neg (by omega)]; simp [Addr.add]
  · rw [run_slice_h w t _ n cap ht .i64 m (by omega) (by omega)]
    obtain ⟨i, hi, he⟩ := Option.map_eq_some_iff.1 hs
    simp [sizeOf, typeInfo, hi, he, sliced, Result.andThen]
theorem run_skip_any {P : Program} {t : TypeId} (ht : P.underlying t = some (.slice (P.elem t))) (hs : (P.info? (P.elem t)).map (fun i => i.size) = some 1) (a : Option Addr) (n cap q : Nat) (hq : q ≤ n) (hn : n ≤ cap) :
    ∃ a', (∀ b off, a = some ⟨b, off, none⟩ → q < n → a' = some ⟨b, off + q, none⟩) ∧ ∀ w, Sem.run P (Instr.slice t (.slice a n cap) (some (.int .i64 (q : Int))) none none) w = .ok (.slice a' (n - q) (cap - q)) w := by
  refine ⟨if cap = q then a else a.map (·.add q), fun b off h hm0 => ?_, fun w => ?_⟩
  · subst h; rw [if_neg (by omega)]; simp [Addr.add]
  · rw [run_slice_l w t _ n cap ht .i64 q (by omega) (by omega)]
    obtain ⟨i, hi, he⟩ := Option.map_eq_some_iff.1 hs
    simp [sizeOf, typeInfo, hi, he, sliced, Result.andThen]
theorem RowF.head_any {lo hi : Nat} {w : World} {a a' : Option Addr} {n m : Nat} {xs : List Int} (h : Row lo hi w a n xs) (hm : m ≤ n) (ha : ∀ b off, a = some ⟨b, off, none⟩ → 0 < m → a' = some ⟨b, off, none⟩) : Row lo hi w a' m (xs.take m) := by
  obtain ⟨h1, h2⟩ := h
  refine ⟨by simp; omega, ?_⟩
  by_cases h0 : m = 0
  · exact .inl h0
  · obtain ⟨b, off, rfl, hl, hh, hc⟩ := h2.resolve_left (by omega)
    refine .inr ⟨b, off, ha b off rfl (by omega), hl, hh, fun i hi => ?_⟩
    rw [hc i (by omega)]
    simp [List.getD, List.getElem?_take, hi]
theorem RowF.skip_any {lo hi : Nat} {w : World} {a a' : Option Addr} {n q : Nat} {xs : List Int} (h : Row lo hi w a n xs) (hq : q ≤ n) (ha : ∀ b off, a = some ⟨b, off, none⟩ → q < n → a' = some ⟨b, off + q, none⟩) : Row lo hi w a' (n - q) (xs.drop q) := by
  obtain ⟨h1, h2⟩ := h
  refine ⟨by simp; omega, ?_⟩
  by_cases h0 : n - q = 0
  · exact .inl h0
  · obtain ⟨b, off, rfl, hl, hh, hc⟩ := h2.resolve_left (by omega)
    refine .inr ⟨b, off + q, ha b off rfl (by omega), hl, hh, fun i hi => ?_⟩
    rw [Nat.add_assoc, hc (q + i) (by omega)]
    simp [List.getD, List.getElem?_drop]

set_option maxRecDepth 100000 in
set_option maxHeartbeats 4000000 in
theorem turn_gen (w : World) (C : Nat) (a : Option Addr) (n ca : Nat) (zs : List Int) (last : Int) (b : Option Addr) (W cb : Nat) (en : List Bool) {lo hi lo2 hi2 : Nat} (hC : Box w C 129 [.slice a n ca, .int .i64 last])
    (hx : Row lo hi w a n zs) (hhi : hi ≤ C) (hcap : n ≤ ca) (hm : n ≤ 1000000) (hen : RowB lo2 hi2 w b W en) (hhi2 : hi2 ≤ w.heap.size) (h64 : W ≤ 1000) (hT : Tab w) (hCt : 0 < C)
    (v : Int) (q : Nat) (l' : Int) (hv : nextI (zs.take (min 1 n)) 0 last en = v) (hq : nextAt (zs.take (min 1 n)) 0 en = (q : Int)) (hl' : nextLast (zs.take (min 1 n)) 0 last en = l') (hqn : q ≤ n) :
    Calls Tryd.prog 36 #[.pointer (some ⟨C, 0, none⟩), .slice b W cb] w fun e w' =>
      e = .returned (.int .i64 v) ∧ ∃ a' c', Box w' C 129 [.slice a' (n - q) c', .int .i64 l'] ∧ Row lo hi w' a' (n - q) (zs.drop q) ∧ n - q ≤ c' ∧ Two C C w w' := by
  have hCl := hC.lt
  obtain ⟨m, hmm⟩ : ∃ m, min 1 n = m := ⟨_, rfl⟩
  rw [hmm] at hv hq hl'
  have hmn : m ≤ n := by omega
  have hmin : (if ((n : Nat) : Int) < 1 then ((n : Nat) : Int) else 1) = (m : Int) := by split <;> omega
  obtain ⟨ra, hra, hrun⟩ := run_head_any (P := Tryd.prog) (t := 22) Tryd.underlying22 (by kernel_rfl) a n ca m hmn hcap
  obtain ⟨rb, hrb, hrunb⟩ := run_skip_any (P := Tryd.prog) (t := 22) Tryd.underlying22 (by kernel_rfl) a n ca q hqn hcap
  have HSK := Lib.hid (fun (w' : World) (h : Row lo hi w' a n zs) => RowF.skip_any h hqn hrb)
  have hhead := hx.head_any hmn hra
  have c0 := hC.cell 0
  have c1 := hC.cell 1
  have f0 := hC.frozen 0
  have f1 := hC.frozen 1
  simp only [List.getElem?_cons_zero, List.getElem?_cons_succ] at c0 c1
  have HC := Lib.hid hC
  have HX := Lib.hid hx
  have HT := Lib.hid hT
  have HV := Lib.hid hv
  have HQ := Lib.hid hq
  have HL := Lib.hid hl'
  have HMM : Hid (m ≤ 1000000) := by show m ≤ 1000000; omega
  have HQN := Lib.hid hqn
  have HCAP := Lib.hid hcap
  have HEN := Lib.hid hen
  have HTL := hT.lt
  have HST : Hid (∀ w', Below w.heap.size w w' → Calls Tryd.prog 56 #[.slice ra m ca] w' fun e w'' => ∃ a' c', e = .returned (.agg #[.slice a' m c', .int .i64 0, .int .i64 (-1)]) ∧ Row w'.heap.size w''.heap.size w'' a' m (zs.take m) ∧ Below w'.heap.size w' w'') := fun w' h => by
    refine (Start_any ra m ca (zs.take m) w' (hhead.below h (by omega)) (by have := h.size; omega) HMM.out).mono ?_
    rintro e w'' ⟨a', c', h1, h2, h3⟩
    exact ⟨a', c', h1, h2, h3⟩
  have K : ∀ w', Below w.heap.size w w' → (Below w.heap.size w w' ∧ w'.cell? ⟨C, 0, none⟩ = some (.slice a n ca) ∧ w'.cell? ⟨C, 1, none⟩ = some (.int .i64 last)) := fun w' h => ⟨h, (hC.below h).cell 0, (hC.below h).cell 1⟩
  have HK := Lib.hid K
  clear hra hrb hhead hx hT hv hq hl' hqn hcap hen K hmm hC
  go_enter Tryd.func36, Tryd.ntmps36
  go_wp2_with fail
  go_cut [5] from 7 to 18 (fun s5 wx => ∃ p a1 c1 lo1 hi1, s5 = .pointer (some ⟨p, 0, none⟩) ∧ Box wx p 94 [.slice a1 m c1, .int .i64 0, .int .i64 (-1)] ∧ Row lo1 hi1 wx a1 m (zs.take m) ∧ w.heap.size ≤ p ∧ (p < lo1 ∨ hi1 ≤ p) ∧ hi1 ≤ wx.heap.size ∧ Below w.heap.size w wx)
  case first =>
    go_region_held3 (fun w' => Below w.heap.size w w' ∧ w'.cell? ⟨C, 0, none⟩ = some (.slice a n ca) ∧ w'.cell? ⟨C, 1, none⟩ = some (.int .i64 last))
      ((with_reducible apply HK.out
        first
        | ((with_reducible apply Below.drew); (with_reducible exact Below.refl _ _))
        | (with_reducible apply below_next (And.left (by assumption)) hbz (Nat.le_refl _))
        | ((with_reducible apply below_alloc (And.left (by assumption)) (Nat.le_refl _)))
        | ((with_reducible apply below_alloc HBz.out (Nat.le_refl _)))
        | ((with_reducible apply Below.drew); (with_reducible apply below_alloc (Below.refl _ _) (Nat.le_refl _)))
        | ((with_reducible apply below_set3' HBz.out); first | exact Nat.le_refl _ | assumption)))
      (first
        | (go_at_call 56; (with_reducible refine (HST.out _ ?_).mono ?_); exact And.left (by assumption); rintro e wz ⟨a1, cc1, rfl, hrz, hbz⟩; have HBz : Hid (Below w.heap.size w wz) := Lib.hid (below_next (And.left (by assumption)) hbz (Nat.le_refl _)); have HRz := Lib.hid hrz; have hzl := hbz.size; (try (have hbt := Box.below (Box.new w 94 [.slice none 0 0, .int .i64 0, .int .i64 0]).drew hbz; obtain ⟨_, _, _, _, _, _⟩ := Box.three hbt; have HBU := Lib.hid hbt; clear hbt)))
        | fail)
    all_goals (go_wp2_with fail; go_meet)
    · exact ⟨_, _, _, _, _, rfl, Box.new _ _ [.slice a1 m cc1, .int .i64 0, .int .i64 (-1)], HRz.out.alloc (Nat.le_refl _) _, HBz.out.size, .inr (Nat.le_refl _), by simp, below_alloc HBz.out (Nat.le_refl _) _⟩
    · exact ⟨_, _, _, _, _, rfl, (((HBU.out.set 0 (.slice a1 m cc1)).set 1 (.int .i64 0)).set 2 (.int .i64 (-1))), ((HRz.out.set (.inl (by simp)) _).set (.inl (by simp)) _).set (.inl (by simp)) _, Nat.le_refl _, .inl (by simp), by simp, below_set3' HBz.out (Nat.le_refl _)⟩
    · exact ⟨_, _, _, _, _, rfl, (((HBU.out.set 0 (.slice a1 m cc1)).set 1 (.int .i64 0)).set 2 (.int .i64 (-1))), ((HRz.out.set (.inl (by simp)) _).set (.inl (by simp)) _).set (.inl (by simp)) _, Nat.le_refl _, .inl (by simp), by simp, below_set3' HBz.out (Nat.le_refl _)⟩
  case rest =>
    obtain ⟨p, a1, c1', lo1, hi1, rfl, hbx, hrw, hpl, hpr, hh1, hb⟩ := hcut
    have hCx := HC.out.below hb
    have d0 := hCx.cell 0
    have d1 := hCx.cell 1
    have e0 := hCx.frozen 0
    have e1 := hCx.frozen 1
    simp only [List.getElem?_cons_zero, List.getElem?_cons_succ] at d0 d1
    obtain ⟨_, _, _, _, _, _⟩ := hbx.three
    have hpC : p ≠ C := by omega
    have hpC' : C ≠ p := by omega
    have hpl2 := hbx.lt
    have hcl2 := hCx.lt
    have HCX := Lib.hid hCx
    have HBX := Lib.hid hbx
    have HRW := Lib.hid hrw
    have HB := Lib.hid hb
    clear hCx hbx hrw hb c0 c1 f0 f1 hrun
    go_wp2_with fail
    have hbs : Below w.heap.size w (wc.setCell ⟨p, 2, none⟩ (.int .i64 last)) := HB.out.setCell (p := ⟨p, 2, none⟩) hpl _
    have hrs := HRW.out.set (p := ⟨p, 2, none⟩) hpr (.int .i64 last)
    have hbx3 := HBX.out.set 2 (.int .i64 last)
    have hcx3 := HCX.out.setOther (a := ⟨p, 2, none⟩) hpC' (.int .i64 last)
    have hen3 := HEN.out.below hbs hhi2
    have hT3 := HT.out.below hbs HTL
    have hws : wc.heap.size = (wc.setCell ⟨p, 2, none⟩ (.int .i64 last)).heap.size := by simp
    simp only [List.set_cons_zero, List.set_cons_succ] at hbx3
    generalize hwd : wc.setCell ⟨p, 2, none⟩ (.int .i64 last) = wd at *
    refine (Next_any a1 b m c1' W cb (zs.take m) en 0 last _ hrs (by omega) HMM.out hen3 (by have := hbs.size; omega) h64 hT3).mono ?_
    rw [HV.out, HQ.out, HL.out]
    rintro e w3 ⟨a2, c2, rfl, hr2, hb2⟩
    have s2 := hb2.size
    have hbx4 := hbx3.below hb2
    have hcx4 := hcx3.below hb2
    obtain ⟨_, _, _, _, _, _⟩ := hbx4.three
    have g0 := hcx4.cell 0
    have g1 := hcx4.cell 1
    have k0 := hcx4.frozen 0
    have k1 := hcx4.frozen 1
    simp only [List.getElem?_cons_zero, List.getElem?_cons_succ] at g0 g1
    have HB4 : Hid (Below w.heap.size w w3) := Lib.hid (hbs.trans (hb2.mono hbs.size))
    have hpl3 : p < w3.heap.size := by omega
    have hcl3 : C < w3.heap.size := by omega
    have HBX4 := Lib.hid hbx4
    have HCX4 := Lib.hid hcx4
    clear hbs hrs hbx3 hcx3 hen3 hT3 hwd hr2 hb2 hbx4 hcx4 d0 d1 e0 e1 s2 hws HBX HCX HRW
    go_wp2_with fail
    go_region
    go_wp2_with fail
    go_ret
    have ht : Two C C w _ := ((((((Two.of_below (b1 := C) (b2 := C) HB4.out).setNew (p := ⟨p, 0, none⟩) hpl (.slice a2 m c2)).setNew (p := ⟨p, 1, none⟩) hpl (.int .i64 (q : Int))).setNew (p := ⟨p, 2, none⟩) hpl (.int .i64 l')).set C 0 (.inl rfl) (.slice rb (n - q) (ca - q))).set C 1 (.inl rfl) (.int .i64 l')).drew
    refine ⟨rfl, rb, ca - q, ?_, HSK.out _ (HX.out.agree fun k h1 h2 => ht.block k (by omega) (by omega) (by omega)), by have := HCAP.out; omega, ht⟩
    exact (((((HCX4.out.setOther (a := ⟨p, 0, none⟩) hpC' _).setOther (a := ⟨p, 1, none⟩) hpC' _).setOther (a := ⟨p, 2, none⟩) hpC' _).set 0 _).set 1 _).drew

/-- Somebody goes on. -/
theorem next_on (w : World) (C lo hi : Nat) (xs : List Int) (t : Nat) (last : Int) (b : Option Addr) (W cb : Nat) (en : List Bool) {lo2 hi2 : Nat} (hC : Tn w C lo hi xs t last) (hm : xs.length ≤ 1000000)
    (hen : RowB lo2 hi2 w b W en) (hhi2 : hi2 ≤ w.heap.size) (h64 : W ≤ 1000) (hT : Tab w) (hCt : 0 < C) (hon : on 0 en ≠ []) (x : Nat) (hx : whoN xs t last en = x) :
    Calls Tryd.prog 36 #[.pointer (some ⟨C, 0, none⟩), .slice b W cb] w fun e w' =>
      e = .returned (.int .i64 (x : Int)) ∧ Tn w' C lo hi xs (t + 1) (x : Int) ∧ Two C C w w' := by
  obtain ⟨a, c, h1, h2, h3, h4⟩ := hC
  by_cases ht : t < xs.length
  · have hd : (xs.drop t).take (min 1 (xs.length - t)) = [xs.getD t 0] := by
      rw [show min 1 (xs.length - t) = 1 by omega, List.drop_eq_getElem_cons ht, List.take_succ_cons, List.take_zero]; simp [List.getD, ht]
    have hw : nextI [xs.getD t 0] 0 last en = (x : Int) := by
      unfold nextI
      rw [if_neg hon, if_pos (by simp), ← hx]
      unfold whoN
      rw [if_pos ht]; simp
    refine (turn_gen w C a (xs.length - t) c (xs.drop t) last b W cb en h1 h2 h4 h3 (by omega) hen hhi2 h64 hT hCt x 1 x (by rw [hd]; exact hw) (by rw [hd]; unfold nextAt; rw [if_neg hon, if_pos (by simp)]; rfl) (by rw [hd]; unfold nextLast; rw [if_neg hon]; exact hw) (by omega)).mono ?_
    rintro e w' ⟨rfl, a', c', k1, k2, k3, k4⟩
    rw [show xs.length - t - 1 = xs.length - (t + 1) by omega] at k1 k2 k3
    rw [List.drop_drop] at k2
    exact ⟨rfl, ⟨a', c', k1, k2, k3, h4⟩, k4⟩
  · have e0 : xs.length - t = 0 := by omega
    have e1 : xs.length - (t + 1) = 0 := by omega
    have hd : (xs.drop t).take (min 1 (xs.length - t)) = [] := by rw [e0]; simp
    have hw : nextI [] 0 last en = (x : Int) := by
      unfold nextI
      obtain ⟨z, _, hz⟩ := behindI_mem en last hon
      rw [if_neg hon, if_neg (by simp), ← hx]
      unfold whoN
      rw [if_neg ht, hz]; simp
    refine (turn_gen w C a (xs.length - t) c (xs.drop t) last b W cb en h1 h2 h4 h3 (by omega) hen hhi2 h64 hT hCt x 0 x (by rw [hd]; exact hw) (by rw [hd]; unfold nextAt; rw [if_neg hon, if_neg (by simp)]; rfl) (by rw [hd]; unfold nextLast; rw [if_neg hon]; exact hw) (Nat.zero_le _)).mono ?_
    rintro e w' ⟨rfl, a', c', k1, k2, k3, k4⟩
    rw [e0, Nat.sub_zero] at k1 k3
    refine ⟨rfl, ⟨a', c', by rw [e1]; exact k1, ⟨by rw [e1]; simp; omega, .inl e1⟩, by omega, h4⟩, k4⟩
/-- Nobody goes on. -/
theorem next_off (w : World) (C lo hi : Nat) (xs : List Int) (t : Nat) (last : Int) (b : Option Addr) (W cb : Nat) (en : List Bool) {lo2 hi2 : Nat} (hC : Tn w C lo hi xs t last) (hm : xs.length ≤ 1000000)
    (hen : RowB lo2 hi2 w b W en) (hhi2 : hi2 ≤ w.heap.size) (h64 : W ≤ 1000) (hT : Tab w) (hCt : 0 < C) (hon : on 0 en = []) :
    Calls Tryd.prog 36 #[.pointer (some ⟨C, 0, none⟩), .slice b W cb] w fun e w' =>
      e = .returned (.int .i64 (-1)) ∧ Two C C w w' := by
  obtain ⟨a, c, h1, h2, h3, h4⟩ := hC
  refine (turn_gen w C a (xs.length - t) c (xs.drop t) last b W cb en h1 h2 h4 h3 (by omega) hen hhi2 h64 hT hCt (-1) 0 last (by unfold nextI; rw [if_pos hon]) (by unfold nextAt; rw [if_pos hon]; rfl) (by unfold nextLast; rw [if_pos hon]) (Nat.zero_le _)).mono ?_
  rintro e w' ⟨rfl, a', c', k1, k2, k3, k4⟩
  exact ⟨rfl, k4⟩

/-- Who goes on: -1, if nobody does. -/
def nxt (xs : List Int) (t : Nat) (last : Int) (en : List Bool) : Int := if on 0 en = [] then -1 else (whoN xs t last en : Nat)
theorem turn_any (w : World) (C lo hi : Nat) (xs : List Int) (t : Nat) (last : Int) (b : Option Addr) (W cb : Nat) (en : List Bool) {lo2 hi2 : Nat} (hC : Tn w C lo hi xs t last) (hm : xs.length ≤ 1000000)
    (hen : RowB lo2 hi2 w b W en) (hhi2 : hi2 ≤ w.heap.size) (h64 : W ≤ 1000) (hT : Tab w) (hCt : 0 < C) (x : Int) (hx : nxt xs t last en = x) :
    Calls Tryd.prog 36 #[.pointer (some ⟨C, 0, none⟩), .slice b W cb] w fun e w' =>
      e = .returned (.int .i64 x) ∧ (on 0 en ≠ [] → Tn w' C lo hi xs (t + 1) x) ∧ Two C C w w' := by
  by_cases hon : on 0 en = []
  · obtain rfl : x = -1 := by rw [← hx]; unfold nxt; rw [if_pos hon]
    refine (next_off w C lo hi xs t last b W cb en hC hm hen hhi2 h64 hT hCt hon).mono ?_
    rintro e w' ⟨rfl, h⟩
    exact ⟨rfl, fun q => absurd hon q, h⟩
  · obtain rfl : (whoN xs t last en : Nat) = x := by rw [← hx]; unfold nxt; rw [if_neg hon]
    refine (next_on w C lo hi xs t last b W cb en hC hm hen hhi2 h64 hT hCt hon _ rfl).mono ?_
    rintro e w' ⟨rfl, h1, h2⟩
    exact ⟨rfl, fun _ => h1, h2⟩

end Go.Proofs.YthhcchdjeeigpaaDoor

namespace Go.Proofs.YthhcchdjeeigpaaDoor
set_option linter.unusedVariables false
set_option linter.unusedSimpArgs false

/-- Are two of one root? -/
abbrev Sm (up : List Nat) (x y : Nat) : Prop := rtu up x = rtu up y

/-- A uniting that succeeds: which roots. -/
theorem win_ok {n : Nat} {pr : List Int} {up : List Nat} {t : Tk} (F : For n pr up) (I : Inv n pr up t) (hst : t.st = 8) (hd : t.dn = false) (hw : (tks up pr t).dn = true) :
    (tks up pr t).res = 1 ∧ ∃ a b, ((a = t.u ∧ b = t.v) ∨ (a = t.v ∧ b = t.u)) ∧ Won n up (ups up pr t) a b := by
  have hne := I.e hd hst
  have un := I.un
  have vn := I.vn
  obtain ⟨k, x, y, st, u, v, w, r, dn, res⟩ := t
  dsimp only at hst hd hne un vn
  subst hst hd
  by_cases hb : bel pr u v
  · by_cases e : el up u = u
    · exact ⟨by simp [tks, hb, e, Tk.fin], u, v, .inl ⟨rfl, rfl⟩, by simpa [ups, hb, e] using F.join un vn hb e⟩
    · simp [tks, hb, e] at hw
  · by_cases e : el up v = v
    · exact ⟨by simp [tks, hb, e, Tk.fin], v, u, .inr ⟨rfl, rfl⟩, by simpa [ups, hb, e] using F.join vn un (bel_total hne hb) e⟩
    · simp [tks, hb, e] at hw

theorem won_sm {n : Nat} {pr : List Int} {up up' : List Nat} {a b : Nat} (F : For n pr up) (W : Won n up up' a b) {p q : Nat} (hp : p < n) (hq : q < n) :
    Sm up' p q ↔ Sm up p q ∨ (Sm up p a ∧ Sm up q b) ∨ (Sm up p b ∧ Sm up q a) := by
  have ra : rtu up a = a := F.rt_self W.an W.was
  have hne := W.ne
  unfold Sm
  rw [W.rt p hp, W.rt q hq, ra]
  by_cases h1 : rtu up p = a <;> by_cases h2 : rtu up q = a <;> simp [h1, h2]
  constructor
  · intro h; exact .inr h.symm
  · rintro (h | h)
    · exact absurd h.symm h2
    · exact h.symm
theorem won_not {n : Nat} {pr : List Int} {up up' : List Nat} {a b : Nat} (F : For n pr up) (W : Won n up up' a b) : ¬ Sm up a b := by
  have ra : rtu up a = a := F.rt_self W.an W.was
  intro h
  exact W.ne (by unfold Sm at h; rw [← h, ra])

/-- The places of finds and questions: what a step finds out. Of a task under way, behind it. -/
structure Cur (n : Nat) (U : Nat → List Nat) (T : Nat) (k : Wk) : Prop where
  b1 : 1 ≤ k.bg
  bT : k.bg ≤ T
  u : Sm (U T) k.t.u k.t.x
  v : Sm (U T) k.t.v k.t.y
  m : k.t.st = 7 → k.bg ≤ k.mt ∧ k.mt ≤ T ∧ el (U k.mt) k.t.v = k.t.v ∧ Sm (U k.mt) k.t.u k.t.x ∧ Sm (U k.mt) k.t.v k.t.y ∧ k.t.u ≠ k.t.v

/-- An event is as it should be at its place. -/
structure EvOk (n : Nat) (U : Nat → List Nat) (T : Nat) (e : Ev) : Prop where
  t : ∃ bg pl en : Nat, e.bg = bg ∧ e.pl = pl ∧ e.en = en ∧ 1 ≤ bg ∧ bg ≤ pl ∧ pl ≤ en ∧ en ≤ T
  x : 0 ≤ e.x ∧ e.x < n
  y : e.k ≠ 1 → 0 ≤ e.y ∧ e.y < n
  r : (e.k = 1 ∧ 0 ≤ e.res ∧ e.res < n ∧ Sm (U e.pl.toNat) e.x.toNat e.res.toNat) ∨
    (e.k = 2 ∧ ((e.res = 1 ∧ Sm (U e.pl.toNat) e.x.toNat e.y.toNat) ∨ (e.res = 0 ∧ ¬ Sm (U e.pl.toNat) e.x.toNat e.y.toNat))) ∨
    (e.k = 3 ∧ ((e.res = 0 ∧ Sm (U e.pl.toNat) e.x.toNat e.y.toNat) ∨
      (e.res = 1 ∧ ¬ Sm (U (e.pl.toNat - 1)) e.x.toNat e.y.toNat ∧ ∀ p q, p < n → q < n → (Sm (U e.pl.toNat) p q ↔ Sm (U (e.pl.toNat - 1)) p q ∨ (Sm (U (e.pl.toNat - 1)) p e.x.toNat ∧ Sm (U (e.pl.toNat - 1)) q e.y.toNat) ∨ (Sm (U (e.pl.toNat - 1)) p e.y.toNat ∧ Sm (U (e.pl.toNat - 1)) q e.x.toNat)))))

/-- Did it unite? -/
def Ev.won (e : Ev) : Prop := e.k = 3 ∧ e.res = 1
instance (e : Ev) : Decidable e.won := by unfold Ev.won; infer_instance

structure Lin (n : Nat) (pr : List Int) (U : Nat → List Nat) (g : Gm) : Prop where
  now : U g.tm = g.up
  F : ∀ t, t ≤ g.tm → For n pr (U t)
  roots : ∀ t, t < g.tm → ∀ j, j < n → el (U (t + 1)) j = j → el (U t) j = j
  merge : ∀ t, t < g.tm → ∀ x y, x < n → y < n → Sm (U t) x y → Sm (U (t + 1)) x y
  evs : ∀ e ∈ g.l, EvOk n U g.tm e
  quiet : ∀ t, t < g.tm → (∃ e ∈ g.l, e.won ∧ e.pl = (t : Int) + 1) ∨ ∀ x y, x < n → y < n → (Sm (U (t + 1)) x y ↔ Sm (U t) x y)
  cur : ∀ (w : Nat) (k : Wk), g.ws[w]? = some k → k.on = true → Cur n U g.tm k
  pw : g.l.Pairwise fun e f => e.en < f.en ∧ e.pl ≠ f.pl ∧ (e.wk = f.wk → e.en < f.bg)
  mp : ∀ e ∈ g.l, ∀ (w : Nat) (k : Wk), g.ws[w]? = some k → k.on = true → k.t.st = 7 → e.pl ≠ (k.mt : Int)
  mm : ∀ (w w' : Nat) (k k' : Wk), w ≠ w' → g.ws[w]? = some k → g.ws[w']? = some k' → k.on = true → k'.on = true → k.t.st = 7 → k'.t.st = 7 → k.mt ≠ k'.mt
  wb : ∀ e ∈ g.l, ∀ (w : Nat) (k : Wk), g.ws[w]? = some k → k.on = true → e.wk = (w : Int) → e.en < (k.bg : Int)

section
variable {n : Nat} {pr : List Int} {U : Nat → List Nat}
theorem mono_roots {g : Gm} (L : Lin n pr U g) : ∀ d t, t + d ≤ g.tm → ∀ j, j < n → el (U (t + d)) j = j → el (U t) j = j
  | 0, t, _, j, _, e => e
  | d + 1, t, h, j, hj, e => mono_roots L d t (by omega) j hj (L.roots (t + d) (by omega) j hj e)
theorem mono_sm {g : Gm} (L : Lin n pr U g) : ∀ d t, t + d ≤ g.tm → ∀ x y, x < n → y < n → Sm (U t) x y → Sm (U (t + d)) x y
  | 0, t, _, x, y, _, _, e => e
  | d + 1, t, h, x, y, hx, hy, e => L.merge (t + d) (by omega) x y hx hy (mono_sm L d t (by omega) x y hx hy e)
theorem Lin.sm_le {g : Gm} (L : Lin n pr U g) {t t' : Nat} (h : t ≤ t') (h' : t' ≤ g.tm) {x y : Nat} (hx : x < n) (hy : y < n) (e : Sm (U t) x y) : Sm (U t') x y := by
  obtain ⟨d, rfl⟩ := Nat.le.dest h
  exact mono_sm L d t h' x y hx hy e
theorem Lin.root_le {g : Gm} (L : Lin n pr U g) {t t' : Nat} (h : t ≤ t') (h' : t' ≤ g.tm) {x : Nat} (hx : x < n) (e : el (U t') x = x) : el (U t) x = x := by
  obtain ⟨d, rfl⟩ := Nat.le.dest h
  exact mono_roots L d t h' x hx e
end

/-- What a step makes of a task under way. -/
theorem cur_step {n : Nat} {pr : List Int} {up : List Nat} {t : Tk} (F : For n pr up) (I : Inv n pr up t) (hd : t.dn = false)
    (hu : Sm up t.u t.x) (hv : Sm up t.v t.y) :
    Sm (ups up pr t) (tks up pr t).u (tks up pr t).x ∧ Sm (ups up pr t) (tks up pr t).v (tks up pr t).y ∧
    ((tks up pr t).dn = false → (tks up pr t).st = 7 → el (ups up pr t) (tks up pr t).v = (tks up pr t).v ∧ (tks up pr t).u ≠ (tks up pr t).v ∧ t.st ≠ 7) := by
  obtain ⟨F', I', D⟩ := step_ok F I
  have hm := D.merge
  have un := I.un
  have vn := I.vn
  have wn := I.wn
  have xn := I.xn
  have yn := I.yn
  have ia := I.a
  have ic := I.c
  have hst : t.st = 1 ∨ t.st = 2 ∨ t.st = 3 ∨ t.st = 4 ∨ t.st = 5 ∨ t.st = 6 ∨ t.st = 7 ∨ t.st = 8 := by have := I.s1; have := I.s8; omega
  obtain ⟨k, x, y, st, u, v, w, r, dn, res⟩ := t
  dsimp only at hd hu hv un vn wn xn yn hst ia ic
  subst hd
  have mu := hm u x un xn hu
  have mv := hm v y vn yn hv
  rcases hst with rfl | rfl | rfl | rfl | rfl | rfl | rfl | rfl
  · by_cases e : el up u = u
    · by_cases hk : k = 1
      · simp [tks, ups, e, Tk.fst, hk, Tk.fin] at mu mv ⊢; exact ⟨mu, mv⟩
      · simp [tks, ups, e, Tk.fst, hk] at mu mv ⊢; exact ⟨mu, mv⟩
    · simp [tks, ups, e] at mu mv ⊢; exact ⟨mu, mv⟩
  · obtain ⟨a1, a2⟩ := ia rfl (.inl rfl)
    have mw := hm w x wn xn (a2.trans hu)
    by_cases e : el up w = w
    · by_cases hk : k = 1
      · simp [tks, ups, e, Tk.fst, hk, Tk.fin] at mw mv ⊢; exact ⟨mw, mv⟩
      · simp [tks, ups, e, Tk.fst, hk] at mw mv ⊢; exact ⟨mw, mv⟩
    · simp [tks, ups, e] at mu mv ⊢; exact ⟨mu, mv⟩
  · obtain ⟨a1, a2⟩ := ia rfl (.inr rfl)
    have mw := hm w x wn xn (a2.trans hu)
    refine ⟨?_, ?_, ?_⟩
    · simpa [tks] using mw
    · simpa [tks] using mv
    · simp [tks]
  · by_cases e : el up v = v
    · by_cases e4 : u = v
      · by_cases hk : k = 2 <;> simp [tks, ups, e, e4, Tk.snd, hk, Tk.fin] at mu mv ⊢ <;> exact ⟨mu, mv⟩
      · by_cases hk : k = 2 <;> simp [tks, ups, e, e4, Tk.snd, hk, Tk.fin] at mu mv ⊢ <;> exact ⟨mu, mv⟩
    · simp [tks, ups, e] at mu mv ⊢; exact ⟨mu, mv⟩
  · obtain ⟨a1, a2⟩ := ic rfl (.inl rfl)
    have mw := hm w y wn yn (a2.trans hv)
    by_cases e : el up w = w
    · by_cases e4 : u = w
      · by_cases hk : k = 2 <;> simp [tks, ups, e, e4, Tk.snd, hk, Tk.fin] at mu mw ⊢ <;> exact ⟨mu, mw⟩
      · by_cases hk : k = 2 <;> simp [tks, ups, e, e4, Tk.snd, hk, Tk.fin] at mu mw ⊢ <;> exact ⟨mu, mw⟩
    · simp [tks, ups, e] at mu mv ⊢; exact ⟨mu, mv⟩
  · obtain ⟨a1, a2⟩ := ic rfl (.inr rfl)
    have mw := hm w y wn yn (a2.trans hv)
    refine ⟨?_, ?_, ?_⟩
    · simpa [tks] using mu
    · simpa [tks] using mw
    · simp [tks]
  · by_cases e : el up u = u
    · simp [tks, ups, e, Tk.fin] at mu mv ⊢; exact ⟨mu, mv⟩
    · simp [tks, ups, e] at mu mv ⊢; exact ⟨mu, mv⟩
  · have h1 : (tks up pr ⟨k, x, y, 8, u, v, w, r, false, res⟩).st ≠ 7 ∧ (tks up pr ⟨k, x, y, 8, u, v, w, r, false, res⟩).u = u ∧ (tks up pr ⟨k, x, y, 8, u, v, w, r, false, res⟩).v = v ∧ (tks up pr ⟨k, x, y, 8, u, v, w, r, false, res⟩).x = x ∧ (tks up pr ⟨k, x, y, 8, u, v, w, r, false, res⟩).y = y := by
      by_cases hb : bel pr u v <;> by_cases e : el up u = u <;> by_cases e2 : el up v = v <;> simp [tks, hb, e, e2, Tk.fin]
    obtain ⟨h1, h2, h3, h4, h5⟩ := h1
    rw [h2, h3, h4, h5]
    exact ⟨mu, mv, fun _ h => absurd h h1⟩

/-- What a task that is done tells. -/
theorem done_step {n : Nat} {pr : List Int} {up : List Nat} {t : Tk} (F : For n pr up) (I : Inv n pr up t) (hd : t.dn = false) (hu : Sm up t.u t.x) (hv : Sm up t.v t.y) (hdn : (tks up pr t).dn = true) :
    (t.k = 1 ∧ (tks up pr t).res < n ∧ Sm (ups up pr t) t.x (tks up pr t).res) ∨
    (t.k = 2 ∧ (((tks up pr t).res = 1 ∧ Sm (ups up pr t) t.x t.y) ∨ ((tks up pr t).res = 0 ∧ t.st = 7 ∧ el up t.u = t.u))) ∨
    (t.k = 3 ∧ (((tks up pr t).res = 0 ∧ Sm (ups up pr t) t.x t.y) ∨ ((tks up pr t).res = 1 ∧ t.st = 8 ∧ t.dn = false))) := by
  obtain ⟨F', I', D⟩ := step_ok F I
  have hm := D.merge
  have un := I.un
  have vn := I.vn
  have wn := I.wn
  have xn := I.xn
  have yn := I.yn
  have ia := I.a
  have ic := I.c
  have ik := I.kk
  have k7 := I.k7
  have k8 := I.k8
  have k1 := I.k1
  have k3 := I.k3
  have hst : t.st = 1 ∨ t.st = 2 ∨ t.st = 3 ∨ t.st = 4 ∨ t.st = 5 ∨ t.st = 6 ∨ t.st = 7 ∨ t.st = 8 := by have := I.s1; have := I.s8; omega
  obtain ⟨k, x, y, st, u, v, w, r, dn, res⟩ := t
  dsimp only at hd hu hv un vn wn xn yn hst ia ic ik k7 k8 k1 k3
  subst hd
  have mu := hm u x un xn hu
  have mv := hm v y vn yn hv
  rcases hst with rfl | rfl | rfl | rfl | rfl | rfl | rfl | rfl
  · by_cases e : el up u = u
    · by_cases hk : k = 1
      · simp [tks, ups, e, Tk.fst, hk, Tk.fin] at mu ⊢; exact ⟨un, mu.symm⟩
      · simp [tks, e, Tk.fst, hk] at hdn
    · simp [tks, e] at hdn
  · obtain ⟨a1, a2⟩ := ia rfl (.inl rfl)
    have mw := hm w x wn xn (a2.trans hu)
    by_cases e : el up w = w
    · by_cases hk : k = 1
      · simp [tks, ups, e, Tk.fst, hk, Tk.fin] at mw ⊢; exact ⟨wn, mw.symm⟩
      · simp [tks, e, Tk.fst, hk] at hdn
    · simp [tks, e] at hdn
  · simp [tks] at hdn
  · have hk1 := ik (by omega)
    by_cases e : el up v = v
    · by_cases e4 : u = v
      · subst e4
        have hxy := mu.symm.trans mv
        by_cases hk : k = 2
        · simp [tks, ups, e, Tk.snd, hk, Tk.fin] at hxy ⊢; exact hxy
        · have : k = 3 := by omega
          simp [tks, ups, e, Tk.snd, this, Tk.fin] at hxy ⊢; exact hxy
      · by_cases hk : k = 2 <;> simp [tks, e, e4, Tk.snd, hk] at hdn
    · simp [tks, e] at hdn
  · have hk1 := ik (by omega)
    obtain ⟨a1, a2⟩ := ic rfl (.inl rfl)
    have mw := hm w y wn yn (a2.trans hv)
    by_cases e : el up w = w
    · by_cases e4 : u = w
      · subst e4
        have hxy := mu.symm.trans mw
        by_cases hk : k = 2
        · simp [tks, ups, e, Tk.snd, hk, Tk.fin] at hxy ⊢; exact hxy
        · have : k = 3 := by omega
          simp [tks, ups, e, Tk.snd, this, Tk.fin] at hxy ⊢; exact hxy
      · by_cases hk : k = 2 <;> simp [tks, e, e4, Tk.snd, hk] at hdn
    · simp [tks, e] at hdn
  · simp [tks] at hdn
  · have hk2 := k7 rfl
    by_cases e : el up u = u
    · simp [tks, ups, e, Tk.fin, hk2]
    · simp [tks, e] at hdn
  · have hk3 := k8 rfl
    obtain ⟨h1, _⟩ := win_ok F I rfl rfl hdn
    exact .inr (.inr ⟨hk3, .inr ⟨h1, rfl, rfl⟩⟩)


/-- What holds of the worker that goes on, ahead of its step. -/
structure Ahead (n : Nat) (U : Nat → List Nat) (g : Gm) (w : Nat) (b : Wk) : Prop where
  b1 : 1 ≤ b.bg
  bT : b.bg ≤ g.tm + 1
  u : Sm (U g.tm) b.t.u b.t.x
  v : Sm (U g.tm) b.t.v b.t.y
  o : (g.ws[w]? = some b ∧ b.on = true) ∨ (b.bg = g.tm + 1 ∧ b.t.st = 1)

theorem ahead {n : Nat} {pr : List Int} {U : Nat → List Nat} {g : Gm} {w : Nat} (L : Lin n pr U g) (G : GInv n pr g) (W : Went n pr g w) (he : (g.wk w).en = true) : Ahead n U g w (g.bg w) := by
  have hw : g.ws[w]? = some (g.wk w) := by
    unfold Gm.wk
    rw [List.getD_eq_getElem?_getD, List.getElem?_eq_getElem W.lt]; rfl
  by_cases e : (g.wk w).on = true
  · have eb : g.bg w = g.wk w := by unfold Gm.bg Wk.beg; rw [if_pos e]
    have C := L.cur w _ hw e
    rw [eb]
    exact ⟨C.b1, Nat.le_succ_of_le C.bT, C.u, C.v, .inl ⟨hw, e⟩⟩
  · cases hl : (g.wk w).left with
    | nil => simp [Wk.en, hl] at he; exact absurd he e
    | cons o r =>
      have eb : g.bg w = ⟨r, true, o.tk, o.y, g.tm + 1, (g.wk w).mt⟩ := by unfold Gm.bg Wk.beg; rw [if_neg e, hl]
      rw [eb]
      exact ⟨by show 1 ≤ g.tm + 1; omega, Nat.le_refl _, rfl, rfl, .inr ⟨rfl, rfl⟩⟩

theorem set_get {α : Type} {l : List α} {i j : Nat} {a b : α} (h : (l.set i a)[j]? = some b) : (i = j ∧ b = a) ∨ (i ≠ j ∧ l[j]? = some b) := by
  rw [List.getElem?_set] at h
  by_cases e : i = j
  · rw [if_pos e] at h
    split at h
    · cases h; exact .inl ⟨e, rfl⟩
    · cases h
  · rw [if_neg e] at h; exact .inr ⟨e, h⟩

theorem ev_mono {n : Nat} {U : Nat → List Nat} {T : Nat} {e : Ev} (h : EvOk n U T e) : EvOk n U (T + 1) e := by
  obtain ⟨⟨bg, pl, en, h1, h2, h3, h4, h5, h6, h7⟩, hx, hy, hr⟩ := h
  exact ⟨⟨bg, pl, en, h1, h2, h3, h4, h5, h6, by omega⟩, hx, hy, hr⟩

/-- The event of a task that is done is as it should be. -/
theorem ev_ok {n : Nat} {pr : List Int} {U : Nat → List Nat} {g : Gm} {w : Nat} (L : Lin n pr U g) (G : GInv n pr g) (W : Went n pr g w) (A : Ahead n U g w (g.bg w)) (hU : U (g.tm + 1) = (adv pr g w).up) (hdn : (g.sp pr w).t.dn = true) :
    EvOk n U (g.tm + 1) (evOf w (g.sp pr w) (g.tm + 1)) ∧
    ((evOf w (g.sp pr w) (g.tm + 1)).pl = (g.tm : Int) + 1 ∨ ((g.bg w).t.st = 7 ∧ (g.ws[w]? = some (g.bg w) ∧ (g.bg w).on = true) ∧ (evOf w (g.sp pr w) (g.tm + 1)).pl = ((g.bg w).mt : Int))) ∧
    ((g.bg w).t.st = 8 → (evOf w (g.sp pr w) (g.tm + 1)).won ∧ (evOf w (g.sp pr w) (g.tm + 1)).pl = (g.tm : Int) + 1) := by
  have F := G.F
  have hn := L.now
  obtain ⟨k1, k2, k3⟩ := tks_keeps g.up pr (g.bg w).t
  have hu : Sm g.up (g.bg w).t.u (g.bg w).t.x := by have := A.u; rwa [hn] at this
  have hv : Sm g.up (g.bg w).t.v (g.bg w).t.y := by have := A.v; rwa [hn] at this
  have D := done_step F W.I W.nd hu hv hdn
  have hUp : U (g.tm + 1) = ups g.up pr (g.bg w).t := hU
  have hy : (g.bg w).t.k ≠ 1 → (g.bg w).y = ((g.bg w).t.y : Int) := fun h => W.b.y W.on h
  have st_eq : (g.sp pr w).t = tks g.up pr (g.bg w).t := rfl
  have mt_eq : (g.sp pr w).mt = if (tks g.up pr (g.bg w).t).st = 7 ∧ (g.bg w).t.st ≠ 7 then g.tm + 1 else (g.bg w).mt := rfl
  have e_eq : evOf w (g.sp pr w) (g.tm + 1) = ⟨w, ((g.bg w).t.k : Int), ((g.bg w).t.x : Int), (g.bg w).y, ((tks g.up pr (g.bg w).t).res : Int), ((g.bg w).bg : Int), ((if (g.bg w).t.k = 2 ∧ (tks g.up pr (g.bg w).t).res = 0 then (g.sp pr w).mt else g.tm + 1 : Nat) : Int), ((g.tm + 1 : Nat) : Int)⟩ := by
    unfold evOf
    rw [st_eq, k1, k2, Ev.eq_iff]
    exact ⟨rfl, rfl, rfl, rfl, rfl, rfl, by show (if _ then ((g.sp pr w).mt : Int) else ((g.tm + 1 : Nat) : Int)) = _; split <;> rfl, rfl⟩
  have xn := W.I.xn
  have yn := W.I.yn
  have un := W.I.un
  have vn := W.I.vn
  have I := W.I
  have nd := W.nd
  have hdn2 : (tks g.up pr (g.bg w).t).dn = true := hdn
  generalize hb : g.bg w = b at *
  have hb1 := A.b1
  have hbT := A.bT
  have hyn : b.t.k ≠ 1 → 0 ≤ b.y ∧ b.y < n := fun h => by rw [hy h]; omega
  rw [e_eq]
  rcases D with ⟨dk, d1, d2⟩ | ⟨dk, ⟨d1, d2⟩ | ⟨d1, d2, d3⟩⟩ | ⟨dk, ⟨d1, d2⟩ | ⟨d1, d2, d3⟩⟩
  · have hp : ¬ (b.t.k = 2 ∧ (tks g.up pr b.t).res = 0) := by omega
    rw [if_neg hp]
    refine ⟨⟨⟨b.bg, g.tm + 1, g.tm + 1, rfl, rfl, rfl, hb1, hbT, Nat.le_refl _, Nat.le_refl _⟩, ⟨by show (0 : Int) ≤ (b.t.x : Int); omega, by show (b.t.x : Int) < n; omega⟩, fun h => hyn (by intro q; exact h (by show (b.t.k : Int) = 1; omega)), .inl ⟨by show (b.t.k : Int) = 1; omega, by show (0 : Int) ≤ ((tks g.up pr b.t).res : Int); omega, by show ((tks g.up pr b.t).res : Int) < n; omega, ?_⟩⟩, .inl (by show ((g.tm + 1 : Nat) : Int) = _; omega), fun h => ?_⟩
    · show Sm (U ((g.tm + 1 : Nat) : Int).toNat) ((b.t.x : Int)).toNat (((tks g.up pr b.t).res : Int)).toNat
      simp only [Int.toNat_natCast]
      rw [hUp]; exact d2
    · have := I.kk (by omega); exact absurd dk this
  · have hp : ¬ (b.t.k = 2 ∧ (tks g.up pr b.t).res = 0) := by omega
    rw [if_neg hp]
    refine ⟨⟨⟨b.bg, g.tm + 1, g.tm + 1, rfl, rfl, rfl, hb1, hbT, Nat.le_refl _, Nat.le_refl _⟩, ⟨by show (0 : Int) ≤ (b.t.x : Int); omega, by show (b.t.x : Int) < n; omega⟩, fun h => hyn (by intro q; exact h (by show (b.t.k : Int) = 1; omega)), .inr (.inl ⟨by show (b.t.k : Int) = 2; omega, .inl ⟨by show ((tks g.up pr b.t).res : Int) = 1; omega, ?_⟩⟩)⟩, .inl (by show ((g.tm + 1 : Nat) : Int) = _; omega), fun h => ?_⟩
    · show Sm (U ((g.tm + 1 : Nat) : Int).toNat) ((b.t.x : Int)).toNat (b.y).toNat
      rw [hy (by omega)]
      simp only [Int.toNat_natCast]
      rw [hUp]; exact d2
    · have := I.k8 h; omega
  · have hp : b.t.k = 2 ∧ (tks g.up pr b.t).res = 0 := ⟨dk, d1⟩
    have hmt : (g.sp pr w).mt = b.mt := by rw [mt_eq, if_neg (by omega)]
    rw [if_pos hp, hmt]
    have ho : g.ws[w]? = some b ∧ b.on = true := A.o.resolve_right (by omega)
    obtain ⟨m1, m2, m3, m4, m5, m6⟩ := (L.cur w b ho.1 ho.2).m d2
    have ru : el (U b.mt) b.t.u = b.t.u := L.root_le m2 (Nat.le_refl _) un (by rw [hn]; exact d3)
    have Fm := L.F b.mt m2
    have eu := Fm.rt_self un ru
    have ev := Fm.rt_self vn m3
    refine ⟨⟨⟨b.bg, b.mt, g.tm + 1, rfl, rfl, rfl, hb1, m1, by omega, Nat.le_refl _⟩, ⟨by show (0 : Int) ≤ (b.t.x : Int); omega, by show (b.t.x : Int) < n; omega⟩, fun h => hyn (by intro q; exact h (by show (b.t.k : Int) = 1; omega)), .inr (.inl ⟨by show (b.t.k : Int) = 2; omega, .inr ⟨by show ((tks g.up pr b.t).res : Int) = 0; omega, ?_⟩⟩)⟩, .inr ⟨d2, ho, rfl⟩, fun h => ?_⟩
    · show ¬ Sm (U (b.mt : Int).toNat) ((b.t.x : Int)).toNat (b.y).toNat
      rw [hy (by omega)]
      simp only [Int.toNat_natCast]
      intro q
      unfold Sm at m4 m5 q
      rw [← m4, ← m5, eu, ev] at q
      exact m6 q
    · omega
  · have hp : ¬ (b.t.k = 2 ∧ (tks g.up pr b.t).res = 0) := by omega
    rw [if_neg hp]
    refine ⟨⟨⟨b.bg, g.tm + 1, g.tm + 1, rfl, rfl, rfl, hb1, hbT, Nat.le_refl _, Nat.le_refl _⟩, ⟨by show (0 : Int) ≤ (b.t.x : Int); omega, by show (b.t.x : Int) < n; omega⟩, fun h => hyn (by intro q; exact h (by show (b.t.k : Int) = 1; omega)), .inr (.inr ⟨by show (b.t.k : Int) = 3; omega, .inl ⟨by show ((tks g.up pr b.t).res : Int) = 0; omega, ?_⟩⟩)⟩, .inl (by show ((g.tm + 1 : Nat) : Int) = _; omega), fun h => ?_⟩
    · show Sm (U ((g.tm + 1 : Nat) : Int).toNat) ((b.t.x : Int)).toNat (b.y).toNat
      rw [hy (by omega)]
      simp only [Int.toNat_natCast]
      rw [hUp]; exact d2
    · have hw := (win_ok F I h nd hdn2).1
      omega
  · have hp : ¬ (b.t.k = 2 ∧ (tks g.up pr b.t).res = 0) := by omega
    rw [if_neg hp]
    obtain ⟨_, a, c, hac, WN⟩ := win_ok F I d2 d3 hdn2
    have hxy : ¬ Sm g.up b.t.x b.t.y := by
      intro q
      have hn' := won_not F WN
      rcases hac with ⟨rfl, rfl⟩ | ⟨rfl, rfl⟩
      · exact hn' (hu.trans (q.trans hv.symm))
      · exact hn' (hv.trans (q.symm.trans hu.symm))
    refine ⟨⟨⟨b.bg, g.tm + 1, g.tm + 1, rfl, rfl, rfl, hb1, hbT, Nat.le_refl _, Nat.le_refl _⟩, ⟨by show (0 : Int) ≤ (b.t.x : Int); omega, by show (b.t.x : Int) < n; omega⟩, fun h => hyn (by intro q; exact h (by show (b.t.k : Int) = 1; omega)), .inr (.inr ⟨by show (b.t.k : Int) = 3; omega, .inr ⟨by show ((tks g.up pr b.t).res : Int) = 1; omega, ?_, ?_⟩⟩)⟩, .inl (by show ((g.tm + 1 : Nat) : Int) = _; omega), fun h => ⟨⟨by show (b.t.k : Int) = 3; omega, by show ((tks g.up pr b.t).res : Int) = 1; omega⟩, by show ((g.tm + 1 : Nat) : Int) = _; omega⟩⟩
    · show ¬ Sm (U (((g.tm + 1 : Nat) : Int).toNat - 1)) ((b.t.x : Int)).toNat (b.y).toNat
      rw [hy (by omega)]
      simp only [Int.toNat_natCast, Nat.add_sub_cancel]
      rw [hn]; exact hxy
    · show ∀ p q, p < n → q < n → (Sm (U ((g.tm + 1 : Nat) : Int).toNat) p q ↔ Sm (U (((g.tm + 1 : Nat) : Int).toNat - 1)) p q ∨ (Sm (U (((g.tm + 1 : Nat) : Int).toNat - 1)) p ((b.t.x : Int)).toNat ∧ Sm (U (((g.tm + 1 : Nat) : Int).toNat - 1)) q (b.y).toNat) ∨ (Sm (U (((g.tm + 1 : Nat) : Int).toNat - 1)) p (b.y).toNat ∧ Sm (U (((g.tm + 1 : Nat) : Int).toNat - 1)) q ((b.t.x : Int)).toNat))
      rw [hy (by omega)]
      simp only [Int.toNat_natCast, Nat.add_sub_cancel]
      rw [hn, hUp]
      intro p q hp hq
      rw [won_sm F WN hp hq]
      unfold Sm at *
      rcases hac with ⟨rfl, rfl⟩ | ⟨rfl, rfl⟩
      · rw [hu, hv]
      · rw [hu, hv]
        constructor
        · rintro (h | h | h)
          · exact .inl h
          · exact .inr (.inr h)
          · exact .inr (.inl h)
        · rintro (h | h | h)
          · exact .inl h
          · exact .inr (.inr h)
          · exact .inr (.inl h)


theorem lin_adv {n : Nat} {pr : List Int} {U : Nat → List Nat} {g : Gm} {w : Nat} (L : Lin n pr U g) (G : GInv n pr g) (W : Went n pr g w) (he : (g.wk w).en = true) (hU : U (g.tm + 1) = (adv pr g w).up) : Lin n pr U (adv pr g w) := by
  have A := ahead L G W he
  have hn := L.now
  have D := W.D
  have hUp : U (g.tm + 1) = ups g.up pr (g.bg w).t := hU
  obtain ⟨k1, k2, k3⟩ := tks_keeps g.up pr (g.bg w).t
  have hu : Sm g.up (g.bg w).t.u (g.bg w).t.x := by have := A.u; rwa [hn] at this
  have hv : Sm g.up (g.bg w).t.v (g.bg w).t.y := by have := A.v; rwa [hn] at this
  have CS := cur_step G.F W.I W.nd hu hv
  have hroots : ∀ j, j < n → el (U (g.tm + 1)) j = j → el (U g.tm) j = j := by rw [hn, hUp]; exact D.roots
  have hmerge : ∀ x y, x < n → y < n → Sm (U g.tm) x y → Sm (U (g.tm + 1)) x y := by rw [hn, hUp]; exact D.merge
  have E := fun hdn => ev_ok L G W A hU hdn
  have hon : (g.sp pr w).on = true → (g.sp pr w).t.dn = false := fun h => by
    change (!(tks g.up pr (g.bg w).t).dn) = true at h
    show (tks g.up pr (g.bg w).t).dn = false
    simpa using h
  have hsmt : (g.sp pr w).on = true → (g.sp pr w).t.st = 7 → (g.sp pr w).mt = g.tm + 1 := fun h h7 => by
    have := (CS.2.2 (hon h) h7).2.2
    show (if (tks g.up pr (g.bg w).t).st = 7 ∧ (g.bg w).t.st ≠ 7 then g.tm + 1 else (g.bg w).mt) = g.tm + 1
    rw [if_pos ⟨h7, this⟩]
  -- the events: all that there were, and it may be one more
  have hl : ∀ e ∈ (adv pr g w).l, e ∈ g.l ∨ ((g.sp pr w).t.dn = true ∧ e = evOf w (g.sp pr w) (g.tm + 1)) := fun e he => by
    change e ∈ (if (g.sp pr w).t.dn then g.l ++ [evOf w (g.sp pr w) (g.tm + 1)] else g.l) at he
    split at he
    · next hd =>
      rcases List.mem_append.1 he with h | h
      · exact .inl h
      · exact .inr ⟨hd, by simpa using h⟩
    · exact .inl he
  have hsub : ∀ e ∈ g.l, e ∈ (adv pr g w).l := fun e he => by
    show e ∈ (if (g.sp pr w).t.dn then g.l ++ [evOf w (g.sp pr w) (g.tm + 1)] else g.l)
    split
    · exact List.mem_append.2 (.inl he)
    · exact he
  have hold : ∀ e ∈ g.l, e.pl < (g.tm : Int) + 1 ∧ e.en < (g.tm : Int) + 1 := fun e he => by
    obtain ⟨bg, pl, en, h1, h2, h3, h4, h5, h6, h7⟩ := (L.evs e he).t
    omega
  have hws : ∀ (w' : Nat) (k : Wk), (adv pr g w).ws[w']? = some k → (w = w' ∧ k = g.sp pr w) ∨ (w ≠ w' ∧ g.ws[w']? = some k) := fun w' k h => set_get h
  have hcm : ∀ (w' : Nat) (k : Wk), g.ws[w']? = some k → k.on = true → k.t.st = 7 → k.mt ≤ g.tm := fun w' k h h1 h2 => ((L.cur w' k h h1).m h2).2.1
  have hbg : ∀ e ∈ g.l, e.wk = (w : Int) → e.en < ((g.bg w).bg : Int) := fun e he hw => by
    rcases A.o with h | h
    · exact L.wb e he w _ h.1 h.2 hw
    · rw [h.1]; have := (hold e he).2; omega
  refine ⟨hU, fun t ht => ?_, fun t ht j hj => ?_, fun t ht x y hx hy => ?_, fun e he => ?_, fun t ht => ?_, fun w' k hk ho => ?_, ?_, fun e he w' k hk ho h7 => ?_, fun w' w'' k k' hne hk hk' ho ho' h7 h7' => ?_, fun e he w' k hk ho hw => ?_⟩
  · change t ≤ g.tm + 1 at ht
    by_cases e : t ≤ g.tm
    · exact L.F t e
    · obtain rfl : t = g.tm + 1 := by omega
      rw [hU]; exact W.F'
  · change t < g.tm + 1 at ht
    by_cases e : t < g.tm
    · exact L.roots t e j hj
    · obtain rfl : t = g.tm := by omega
      exact hroots j hj
  · change t < g.tm + 1 at ht
    by_cases e : t < g.tm
    · exact L.merge t e x y hx hy
    · obtain rfl : t = g.tm := by omega
      exact hmerge x y hx hy
  · rcases hl e he with h | ⟨hd, rfl⟩
    · exact ev_mono (L.evs e h)
    · exact (E hd).1
  · change t < g.tm + 1 at ht
    by_cases e : t < g.tm
    · rcases L.quiet t e with ⟨q, hq, h1, h2⟩ | h
      · exact .inl ⟨q, hsub q hq, h1, h2⟩
      · exact .inr h
    · obtain rfl : t = g.tm := by omega
      rcases D with ⟨_, h⟩ | ⟨⟨h8, _, hd⟩, _⟩
      · refine .inr fun x y hx hy => ?_
        unfold Sm
        rw [hU, hn, (h x hx).2, (h y hy).2]
      · obtain ⟨h1, h2⟩ := (E hd).2.2 h8
        refine .inl ⟨_, ?_, h1, h2⟩
        show _ ∈ (if (g.sp pr w).t.dn then g.l ++ [evOf w (g.sp pr w) (g.tm + 1)] else g.l)
        rw [if_pos hd]; simp
  · rcases hws w' k hk with ⟨rfl, rfl⟩ | ⟨hne, h⟩
    · refine ⟨A.b1, A.bT, ?_, ?_, fun h7 => ?_⟩
      · show Sm (U (g.tm + 1)) _ _; rw [hUp]; exact CS.1
      · show Sm (U (g.tm + 1)) _ _; rw [hUp]; exact CS.2.1
      · have hm := hsmt ho h7
        obtain ⟨q1, q2, q3⟩ := CS.2.2 (hon ho) h7
        rw [hm]
        refine ⟨A.bT, Nat.le_refl _, ?_, ?_, ?_, q2⟩
        · rw [hUp]; exact q1
        · rw [hUp]; exact CS.1
        · rw [hUp]; exact CS.2.1
    · have C := L.cur w' k h ho
      have I := (G.ok k (List.mem_of_getElem? h)).i ho
      exact ⟨C.b1, Nat.le_succ_of_le C.bT, hmerge _ _ I.1.un I.1.xn C.u, hmerge _ _ I.1.vn I.1.yn C.v, fun h7 => by
        obtain ⟨m1, m2, m3⟩ := C.m h7
        exact ⟨m1, Nat.le_succ_of_le m2, m3⟩⟩
  · show (if (g.sp pr w).t.dn then g.l ++ [evOf w (g.sp pr w) (g.tm + 1)] else g.l).Pairwise _
    split
    · next hd =>
      rw [List.pairwise_append]
      refine ⟨L.pw, List.pairwise_singleton _ _, fun e he f hf => ?_⟩
      simp at hf; subst hf
      obtain ⟨o1, o2⟩ := hold e he
      refine ⟨by show e.en < ((g.tm + 1 : Nat) : Int); omega, ?_, fun hw => ?_⟩
      · rcases (E hd).2.1 with h | ⟨h7, ho, h⟩
        · rw [h]; omega
        · rw [h]; exact L.mp e he w _ ho.1 ho.2 h7
      · exact hbg e he hw
    · exact L.pw
  · rcases hws w' k hk with ⟨rfl, rfl⟩ | ⟨hne, h⟩
    · rw [hsmt ho h7]
      rcases hl e he with h | ⟨hd, _⟩
      · have := (hold e h).1; omega
      · rw [hon ho] at hd; cases hd
    · have hk := hcm w' k h ho h7
      rcases hl e he with q | ⟨hd, rfl⟩
      · exact L.mp e q w' k h ho h7
      · rcases (E hd).2.1 with q | ⟨q7, qo, q⟩
        · rw [q]; omega
        · rw [q]
          have := L.mm w w' _ k hne qo.1 h qo.2 ho q7 h7
          omega
  · rcases hws w' k hk with ⟨rfl, rfl⟩ | ⟨h1, h⟩
    · rcases hws w'' k' hk' with ⟨rfl, _⟩ | ⟨h2, h'⟩
      · exact absurd rfl hne
      · rw [hsmt ho h7]
        have := hcm w'' k' h' ho' h7'; omega
    · rcases hws w'' k' hk' with ⟨rfl, rfl⟩ | ⟨h2, h'⟩
      · rw [hsmt ho' h7']
        have := hcm w' k h ho h7; omega
      · exact L.mm w' w'' k k' hne h h' ho ho' h7 h7'
  · rcases hws w' k hk with ⟨rfl, rfl⟩ | ⟨h1, h⟩
    · rcases hl e he with q | ⟨hd, _⟩
      · exact hbg e q hw
      · rw [hon ho] at hd; cases hd
    · rcases hl e he with q | ⟨hd, rfl⟩
      · exact L.wb e q w' k h ho hw
      · exact absurd (show (w : Int) = (w' : Int) from hw) (by omega)

theorem lin0 {n : Nat} {pr : List Int} {ss : List (List Opn)} {U : Nat → List Nat} (h : ∀ s ∈ ss, ∀ o ∈ s, o.ok n) (hU : U 0 = List.range n) : Lin n pr U (gm0 n ss) := by
  have G := ginv0 (pr := pr) h
  have hw : ∀ (w : Nat) (k : Wk), (gm0 n ss).ws[w]? = some k → k.on = true → False := fun w k hk ho => by
    have := List.mem_of_getElem? hk
    simp [gm0] at this
    obtain ⟨s, _, rfl⟩ := this
    cases ho
  refine ⟨hU, fun t ht => ?_, fun t ht => absurd ht (Nat.not_lt_zero _), fun t ht => absurd ht (Nat.not_lt_zero _), fun e he => absurd he (List.not_mem_nil), fun t ht => absurd ht (Nat.not_lt_zero _), fun w k hk ho => (hw w k hk ho).elim, List.Pairwise.nil, fun e he => absurd he (List.not_mem_nil), fun w w' k k' _ hk _ ho => (hw w k hk ho).elim, fun e he => absurd he (List.not_mem_nil)⟩
  obtain rfl : t = 0 := Nat.le_zero.1 ht
  rw [hU]; exact G.F

/-- Time is counted till all have ended; so long the state is the one of that time. -/
theorem run_lin {n : Nat} {pr picks : List Int} {ss : List (List Opn)} (h : ∀ s ∈ ss, ∀ o ∈ s, o.ok n) : ∀ T, (∀ t, t < T → on 0 (run pr picks (gm0 n ss) t).en ≠ []) →
    (run pr picks (gm0 n ss) T).tm = T ∧ Lin n pr (fun t => (run pr picks (gm0 n ss) t).up) (run pr picks (gm0 n ss) T)
  | 0, _ => ⟨rfl, lin0 h rfl⟩
  | T + 1, hT => by
    obtain ⟨h1, L⟩ := run_lin (pr := pr) (picks := picks) h T fun t ht => hT t (by omega)
    have hne := hT T (by omega)
    have G := run_inv (picks := picks) (ginv0 (pr := pr) h) T
    have W := went G (Gm.who_lt (picks := picks) hne) (Gm.who_en hne)
    have e := run_next hne
    refine ⟨by rw [e]; show (run pr picks (gm0 n ss) T).tm + 1 = T + 1; rw [h1], ?_⟩
    rw [e]
    exact lin_adv L G W (Gm.who_en hne) (by show (run pr picks (gm0 n ss) ((run pr picks (gm0 n ss) T).tm + 1)).up = _; rw [h1, e])

end Go.Proofs.YthhcchdjeeigpaaDoor

namespace Go.Proofs.YthhcchdjeeigpaaDoor
set_option linter.unusedVariables false
set_option linter.unusedSimpArgs false

/-- An operation, an event's, a task's, as three numbers. -/
def Opn.tr (o : Opn) : Int × Int × Int := ((o.k : Int), (o.x : Int), o.y)
def Ev.tr (e : Ev) : Int × Int × Int := (e.k, e.x, e.y)
/-- What worker w has ended. -/
def evs (w : Nat) (l : List Ev) : List (Int × Int × Int) := (l.filter fun e => decide (e.wk = (w : Int))).map Ev.tr
/-- What a worker has under way, and has not begun. -/
def Wk.rest (k : Wk) : List (Int × Int × Int) := (if k.on then [((k.t.k : Int), (k.t.x : Int), k.y)] else []) ++ k.left.map Opn.tr
/-- Each operation is ended, or under way, or has not begun, in its order. -/
structure Ordd (ss : List (List Opn)) (g : Gm) : Prop where
  each : ∀ (w : Nat) (s : List Opn), ss[w]? = some s → evs w g.l ++ (g.wk w).rest = s.map Opn.tr
  who : ∀ e ∈ g.l, ∃ w : Nat, w < ss.length ∧ e.wk = (w : Int)

theorem beg_rest {k : Wk} (he : k.en = true) (tm : Nat) : (k.beg tm).rest = k.rest ∧ (k.beg tm).on = true := by
  unfold Wk.beg
  split
  · next e => exact ⟨rfl, e⟩
  · next e =>
    cases hl : k.left with
    | nil => simp [Wk.en, hl] at he; exact absurd he e
    | cons o r => refine ⟨?_, rfl⟩; simp [Wk.rest, hl, e, Opn.tr, Opn.tk]
theorem evs_snoc (w : Nat) (l : List Ev) (e : Ev) : evs w (l ++ [e]) = evs w l ++ if e.wk = (w : Int) then [e.tr] else [] := by
  unfold evs
  rw [List.filter_append, List.map_append]
  by_cases h : e.wk = (w : Int) <;> simp [h]
theorem wk_adv (pr : List Int) (g : Gm) (w w' : Nat) (hw : w < g.ws.length) : (adv pr g w).wk w' = if w' = w then g.sp pr w else g.wk w' := by
  show (g.ws.set w (g.sp pr w)).getD w' (Wk.new []) = if w' = w then _ else g.ws.getD w' (Wk.new [])
  rw [List.getD_eq_getElem?_getD, List.getD_eq_getElem?_getD, List.getElem?_set]
  by_cases e : w' = w
  · subst e; rw [if_pos rfl, if_pos rfl, if_pos hw]; rfl
  · rw [if_neg e, if_neg (fun h => e h.symm)]
theorem ordd_adv {ss : List (List Opn)} {pr : List Int} {g : Gm} {w : Nat} (O : Ordd ss g) (hw : w < g.ws.length) (hl : g.ws.length = ss.length) (he : (g.wk w).en = true) : Ordd ss (adv pr g w) := by
  obtain ⟨hr, hon⟩ : (g.bg w).rest = (g.wk w).rest ∧ (g.bg w).on = true := beg_rest he (g.tm + 1)
  obtain ⟨tk, tx, _⟩ := tks_keeps g.up pr (g.bg w).t
  have hst : (g.sp pr w).t = tks g.up pr (g.bg w).t := rfl
  have hsy : (g.sp pr w).y = (g.bg w).y := rfl
  have hsl : (g.sp pr w).left = (g.bg w).left := rfl
  have hso : (g.sp pr w).on = !(g.sp pr w).t.dn := rfl
  have hb : (g.bg w).rest = [(((g.bg w).t.k : Int), ((g.bg w).t.x : Int), (g.bg w).y)] ++ (g.bg w).left.map Opn.tr := by
    unfold Wk.rest; rw [if_pos hon]
  have hev : (evOf w (g.sp pr w) (g.tm + 1)).tr = (((g.bg w).t.k : Int), ((g.bg w).t.x : Int), (g.bg w).y) := by
    show (((g.sp pr w).t.k : Int), ((g.sp pr w).t.x : Int), (g.sp pr w).y) = _
    rw [hst, tk, tx, hsy]
  have hadv : (adv pr g w).l = if (g.sp pr w).t.dn then g.l ++ [evOf w (g.sp pr w) (g.tm + 1)] else g.l := rfl
  refine ⟨fun w' s hs => ?_, fun e hq => ?_⟩
  · have h0 := O.each w' s hs
    rw [wk_adv pr g w w' hw]
    by_cases e : w' = w
    · subst e
      rw [if_pos rfl]
      have hk : (g.wk w').rest = (g.bg w').rest := hr.symm
      rw [hk, hb] at h0
      cases hd : (g.sp pr w').t.dn with
      | true =>
        rw [hadv, hd, if_pos rfl, evs_snoc, if_pos (show (evOf w' (g.sp pr w') (g.tm + 1)).wk = (w' : Int) from rfl), hev, ← h0]
        unfold Wk.rest
        rw [hso, hd, hsl]
        simp
      | false =>
        rw [hadv, hd, ← h0]
        unfold Wk.rest
        rw [hso, hd, hsl, hst, tk, tx, hsy]
        simp
    · rw [if_neg e, ← h0, hadv]
      split
      · rw [evs_snoc, if_neg (fun h => e (by have : (w : Int) = (w' : Int) := h; omega)), List.append_nil]
      · rfl
  · rw [hadv] at hq
    split at hq
    · rcases List.mem_append.1 hq with h | h
      · exact O.who e h
      · simp at h; subst h
        exact ⟨w, by omega, rfl⟩
    · exact O.who e hq
theorem ordd0 {n : Nat} {ss : List (List Opn)} : Ordd ss (gm0 n ss) := by
  refine ⟨fun w s hs => ?_, fun e h => absurd h List.not_mem_nil⟩
  have : (gm0 n ss).wk w = Wk.new s := by
    show (ss.map Wk.new).getD w (Wk.new []) = _
    rw [List.getD_eq_getElem?_getD, List.getElem?_map, hs]; rfl
  rw [this]
  simp [evs, gm0, Wk.rest, Wk.new]
theorem run_ordd {n : Nat} {pr picks : List Int} {ss : List (List Opn)} : ∀ T, Ordd ss (run pr picks (gm0 n ss) T)
  | 0 => ordd0
  | T + 1 => by
    have ih := run_ordd (n := n) (pr := pr) (picks := picks) (ss := ss) T
    by_cases hne : on 0 (run pr picks (gm0 n ss) T).en = []
    · rw [run, if_pos hne]; exact ih
    · rw [run_next hne]
      exact ordd_adv ih (Gm.who_lt (picks := picks) hne) (by rw [run_len]) (Gm.who_en hne)
theorem rest_nil {g : Gm} (h : on 0 g.en = []) {w : Nat} : (g.wk w).rest = [] := by
  have key : ∀ k ∈ g.ws, k.on = false ∧ k.left = [] := by
    intro k hk
    obtain ⟨i, hi, rfl⟩ := List.getElem_of_mem hk
    have h1 : ¬ g.en.getD i false = true := fun e => by
      have := mem_on g.en 0 i e
      rw [h] at this; cases this
    have h2 : g.en.getD i false = (g.ws[i]).en := by
      unfold Gm.en
      simp [List.getD, hi]
    rw [h2] at h1
    unfold Wk.en at h1
    simp at h1
    exact ⟨h1.1, h1.2⟩
  by_cases hw : w < g.ws.length
  · obtain ⟨h1, h2⟩ := key _ (Gm.wk_mem hw)
    unfold Wk.rest; rw [h1, h2]; rfl
  · have : g.wk w = Wk.new [] := by unfold Gm.wk; rw [List.getD_eq_getElem?_getD, List.getElem?_eq_none (by omega)]; rfl
    rw [this]; rfl
/-- Behind all: each worker's events are its operations. -/
theorem over_evs {n : Nat} {pr picks : List Int} {ss : List (List Opn)} {T : Nat} (h : on 0 (run pr picks (gm0 n ss) T).en = []) (w : Nat) (s : List Opn) (hs : ss[w]? = some s) : evs w (run pr picks (gm0 n ss) T).l = s.map Opn.tr := by
  have := (run_ordd (n := n) (pr := pr) (picks := picks) (ss := ss) T).each w s hs
  rwa [rest_nil h, List.append_nil] at this

/-- All unitings' pairs. -/
def upairs (ss : List (List Opn)) : List (Int × Int) := ((ss.flatMap fun s => s.map Opn.tr).filter fun q => decide (q.1 = 3)).map fun q => q.2
theorem over_mem {n : Nat} {pr picks : List Int} {ss : List (List Opn)} {T : Nat} (h : on 0 (run pr picks (gm0 n ss) T).en = []) (q : Int × Int) : q ∈ upairs ss ↔ ∃ e ∈ (run pr picks (gm0 n ss) T).l, e.k = 3 ∧ (e.x, e.y) = q := by
  unfold upairs
  simp only [List.mem_map, List.mem_filter, List.mem_flatMap, decide_eq_true_eq]
  constructor
  · rintro ⟨p, ⟨⟨s, hs, o, ho, rfl⟩, h3⟩, rfl⟩
    obtain ⟨w, hw, rfl⟩ := List.getElem_of_mem hs
    have h1 := over_evs h w _ (List.getElem?_eq_getElem hw)
    have h2 : o.tr ∈ evs w (run pr picks (gm0 n ss) T).l := by rw [h1]; exact List.mem_map_of_mem ho
    unfold evs at h2
    obtain ⟨e, he, h4⟩ := List.mem_map.1 h2
    refine ⟨e, (List.mem_filter.1 he).1, ?_, ?_⟩
    · have := congrArg Prod.fst h4; exact this.trans h3
    · exact congrArg Prod.snd h4
  · rintro ⟨e, he, h3, rfl⟩
    obtain ⟨w, hw, hwk⟩ := (run_ordd (n := n) (pr := pr) (picks := picks) (ss := ss) T).who e he
    have h1 := over_evs h w _ (List.getElem?_eq_getElem hw)
    have h2 : e.tr ∈ evs w (run pr picks (gm0 n ss) T).l := List.mem_map_of_mem (List.mem_filter.2 ⟨he, by simpa using hwk⟩)
    rw [h1] at h2
    obtain ⟨o, ho, h4⟩ := List.mem_map.1 h2
    exact ⟨o.tr, ⟨⟨_, List.getElem_mem hw, o, ho, rfl⟩, by rw [h4]; exact h3⟩, by rw [h4]; rfl⟩

/-- What is left is the partition of all unitings. -/
theorem left_is {n : Nat} {pr picks : List Int} {ss : List (List Opn)} (h : ∀ s ∈ ss, ∀ o ∈ s, o.ok n) {T : Nat} (hT : ∀ t, t < T → on 0 (run pr picks (gm0 n ss) t).en ≠ []) (hE : on 0 (run pr picks (gm0 n ss) T).en = []) {x y : Nat} (hx : x < n) (hy : y < n) :
    Sm (run pr picks (gm0 n ss) T).up x y ↔ el (ofL n (upairs ss)) x = el (ofL n (upairs ss)) y := by
  obtain ⟨htm, L⟩ := run_lin (pr := pr) (picks := picks) h T hT
  have hin : ∀ e ∈ (run pr picks (gm0 n ss) T).l, e.k = 3 → (0 ≤ e.x ∧ e.x < n) ∧ (0 ≤ e.y ∧ e.y < n) ∧ el (ofL n (upairs ss)) e.x.toNat = el (ofL n (upairs ss)) e.y.toNat := by
    intro e he h3
    have E := L.evs e he
    have h1 := E.x
    have h2 := E.y (by omega)
    exact ⟨h1, h2, of_same n (upairs ss) ((over_mem hE (e.x, e.y)).2 ⟨e, he, h3, rfl⟩) ⟨h1.1, h1.2, h2.1, h2.2⟩⟩
  have up : ∀ t, t ≤ T → ∀ x y, x < n → y < n → Sm ((run pr picks (gm0 n ss) t).up) x y → el (ofL n (upairs ss)) x = el (ofL n (upairs ss)) y := by
    intro t
    induction t with
    | zero =>
      intro _ x y hx hy hs
      have F := L.F 0 (by omega)
      have e1 : rtu (List.range n) x = x := F.rt_self hx (el_range hx)
      have e2 : rtu (List.range n) y = y := F.rt_self hy (el_range hy)
      have : x = y := by
        have hs' : rtu (List.range n) x = rtu (List.range n) y := hs
        rwa [e1, e2] at hs'
      rw [this]
    | succ t ih =>
      intro ht x y hx hy hs
      have ih' := ih (by omega)
      rcases L.quiet t (by omega) with ⟨e, he, hwon, hpl⟩ | hq
      · obtain ⟨h1, h2, h3⟩ := hin e he hwon.1
        have hpt : e.pl.toNat = t + 1 := by omega
        have hpt1 : e.pl.toNat - 1 = t := by omega
        rcases (L.evs e he).r with ⟨hk, _⟩ | ⟨hk, _⟩ | ⟨_, ⟨hr, _⟩ | ⟨_, _, hiff⟩⟩
        · exact absurd hk (by rw [hwon.1]; decide)
        · exact absurd hk (by rw [hwon.1]; decide)
        · exact absurd hr (by rw [hwon.2]; decide)
        · rw [hpt, Nat.add_sub_cancel] at hiff
          have hxe : e.x.toNat < n := by omega
          have hye : e.y.toNat < n := by omega
          rcases (hiff x y hx hy).1 hs with g | ⟨g1, g2⟩ | ⟨g1, g2⟩
          · exact ih' x y hx hy g
          · exact (ih' _ _ hx hxe g1).trans (h3.trans (ih' _ _ hy hye g2).symm)
          · exact (ih' _ _ hx hye g1).trans (h3.symm.trans (ih' _ _ hy hxe g2).symm)
      · exact ih' x y hx hy ((hq x y hx hy).1 hs)
  constructor
  · exact up T (Nat.le_refl _) x y hx hy
  · intro he
    have low := of_least (fun z => rtu (run pr picks (gm0 n ss) T).up z) n (upairs ss) (fun q hq _ => by
      obtain ⟨e, hel, h3, rfl⟩ := (over_mem hE q).1 hq
      have E := L.evs e hel
      have h1 := E.x
      have h2 := E.y (by omega)
      obtain ⟨bg, pl, en, _, e2, e3, _, _, _, e4⟩ := E.t
      rw [htm] at e4
      have hxe : e.x.toNat < n := by omega
      have hye : e.y.toNat < n := by omega
      have hpt : e.pl.toNat = pl := by omega
      have hsm : Sm (run pr picks (gm0 n ss) pl).up e.x.toNat e.y.toNat := by
        rcases E.r with ⟨hk, _⟩ | ⟨hk, _⟩ | ⟨_, ⟨_, hs⟩ | ⟨_, _, hiff⟩⟩
        · omega
        · omega
        · rwa [hpt] at hs
        · rw [hpt] at hiff
          exact (hiff _ _ hxe hye).2 (.inr (.inl ⟨rfl, rfl⟩))
      exact L.sm_le (t := pl) (t' := T) (by omega) (by omega) hxe hye hsm)
    show rtu _ x = rtu _ y
    have a := low x hx
    have b := low y hy
    rw [← a, ← b, he]

end Go.Proofs.YthhcchdjeeigpaaDoor

namespace Go.Proofs.YthhcchdjeeigpaaDoor
open Go.RowKit
set_option linter.unusedVariables false
set_option linter.unusedSimpArgs false

theorem en_waits (g : Gm) : wd (unders g.ws) ||| wd (waits g.ws) = wd g.en := by
  unfold unders waits Gm.en
  exact wd_or g.ws (·.on) (fun k => !k.left.isEmpty)

set_option maxRecDepth 100000 in
set_option maxHeartbeats 2000000 in
theorem enabled_w (w : World) (lo hi C e0 G B gb cu : Nat) (ev psl : Value) (n : Nat) (g : Gm) (H : PG w lo hi C e0 G B gb cu ev psl n g) (W : Nat) (hW : g.ws.length = W) :
    Calls Tryd.prog 37 #[.pointer (some ⟨G, 0, none⟩)] w fun e w' => ∃ a c, e = .returned (.slice a W c) ∧ RowB w.heap.size w'.heap.size w' a W g.en ∧ Below w.heap.size w w' := by
  have hG := H.box.lt
  have hbx := H.box
  have h64 := H.w64
  rw [hW] at h64
  have h1 := wd_lt64 (unders g.ws) (by rw [unders_length]; exact H.w64)
  have h2 := wd_lt64 (waits g.ws) (by rw [waits_length]; exact H.w64)
  have ho := bits_or_u64_nat _ _ h1 h2
  have hel : g.en.length = W := by unfold Gm.en; simpa using hW
  have HH := fun (i : Nat) (w : World) (hi : i < 64) => has_any g.en i w (by omega) hi
  obtain ⟨v, hv⟩ : ∃ v, wd g.en = v := ⟨_, rfl⟩
  rw [en_waits, hv] at ho
  rw [hv] at HH
  obtain ⟨l, hl⟩ : ∃ l, g.en = l := ⟨_, rfl⟩
  rw [hl] at hel HH ⊢
  have HL := Lib.hid hel
  have HHH := Lib.hid HH
  obtain ⟨wt, hwt⟩ : ∃ x, wd (waits g.ws) = x := ⟨_, rfl⟩
  obtain ⟨un, hun⟩ : ∃ x, wd (unders g.ws) = x := ⟨_, rfl⟩
  rw [hwt, hun, hW] at hbx
  rw [hwt, hun] at ho
  obtain ⟨_, _, _, _, _, _, _⟩ := hbx.seven
  obtain ⟨i0, hi0, hz0, hz1, hz2⟩ := info_parts Tryd.boolInfo
  clear H h1 h2 hv hwt hun hbx hel HH hl hW
  go_enter Tryd.func37, Tryd.ntmps37
  go_wp2_with fail
  go_quiet (fail)
  go_wp2_with (at_make; refine wpList_make_full _ rfl _ _ 77 rfl w.heap.size 4 i0 (.bool false) 1 Tryd.underlying77 hi0 hz0 hz1 _ _ _ _ W rfl rfl rfl rfl ?m1 ?m2 ?m3 ?_)
  case m1 => rw [hz2]; omega
  case m2 => unfold maxLen; omega
  case m3 => simp
  intro w1 hown hgr
  rw [toList_madeCells_one] at hown
  have hb1 : Below w.heap.size w w1 := (below_drewN' (Below.refl _ _) nq).grown hgr (Nat.le_refl _) (by simp)
  clear hgr
  go_wp2
  go_loopw [23] (fun i wr => ∃ k : Nat, k ≤ W ∧ i = .int .i64 k ∧ wr.ownsRow w.heap.size 4 1 (.slice (some ⟨w.heap.size, 0, none⟩) W W) W ((l.take k ++ List.replicate (W - k) false).map Value.bool) ∧ Below w.heap.size w wr) (fun i _ => W - (intOf i).toNat)
  case atStart => exact ⟨0, Nat.zero_le _, rfl, by simpa using hown, hb1⟩
  case round =>
    clear hown hb1
    obtain ⟨k, hk, rfl, hown, hb⟩ := hrel
    by_cases hlt : k < W
    · have hsz : w.heap.size < wr.heap.size := (hown.lt w.heap.size rfl).2
      have hcl : ∃ v0, wr.cell? ⟨w.heap.size, k, none⟩ = some v0 := by
        refine ⟨_, (hown.cellAt k (by omega)).trans (List.getElem?_eq_getElem (by have := HL.out; simp; omega))⟩
      obtain ⟨v0, hcl⟩ := hcl
      have hfl := hown.frozenAt k
      have hnew := (hown.stored k (.bool (l.getD k false))).1
      rw [← HL.out, flags_upd l k (by rw [HL.out]; exact hlt), HL.out] at hnew
      have HNEW := Lib.hid hnew
      have HB := Lib.hid hb
      have hk64 : k < 64 := by omega
      clear hnew hown hb
      obtain ⟨b, hbb⟩ : ∃ b, l.getD k false = b := ⟨_, rfl⟩
      have HHk : Hid (∀ W, Calls Tryd.prog 58 #[.int .u64 (v : Int), .int .i64 (k : Int)] W fun e w' => e = .returned (.bool b) ∧ W = w') := fun W => by rw [← hbb]; exact HHH.out k W hk64
      rw [hbb] at HNEW
      clear hbb
      go_wp2_with (first | (go_at_call 58; (with_reducible refine (HHk.out _).mono ?_); rintro e w' ⟨rfl, rfl⟩))
      go_roundw
      case rel => exact ⟨k + 1, by omega, by go_num, HNEW.out, (HB.out.setCell (Nat.le_refl _) _)⟩
      case measure => simp [intOf]; omega
    · obtain rfl : k = W := by omega
      go_wp2_with fail
      go_ret
      have e : l.take k ++ List.replicate (k - k) false = l := by rw [← HL.out]; simp
      rw [e] at hown
      obtain ⟨a1, c1, h1, h2⟩ := RowF.of_owns (f := Value.bool) (d := false) (xs := l) (by rw [HL.out]; exact hown)
      rw [HL.out] at h1 h2
      exact ⟨_, _, by rw [← h1]; rfl, h2, hb⟩

theorem Tab.two {w w' : World} {C : Nat} (h : Tab w) (ht : Two C C w w') (hC : 0 < C) : Tab w' := fun j hj => (World.cell?_of_block (ht.block _ h.lt (by show 0 ≠ C; omega) (by show 0 ≠ C; omega))).trans (h j hj)

/-- The state at a time. -/
abbrev stAt (pr xs : List Int) (n : Nat) (ss : List (List O3)) (t : Nat) : Gm := run pr xs (gm0 n (ss.map (valid n))) t
/-- It is over at T, and was not ahead of it. -/
def Over (pr xs : List Int) (n : Nat) (ss : List (List O3)) (T : Nat) : Prop := (∀ t, t < T → on 0 (stAt pr xs n ss t).en ≠ []) ∧ on 0 (stAt pr xs n ss T).en = []

theorem all_ok (n : Nat) (ss : List (List O3)) : ∀ s ∈ ss.map (valid n), ∀ o ∈ s, o.ok n := by
  intro s hs o ho
  obtain ⟨q, _, rfl⟩ := List.mem_map.1 hs
  exact valid_ok o ho
theorem opsIn_valid (n : Nat) (ss : List (List O3)) : opsIn (ss.map (valid n)) ≤ opsN ss := by
  unfold opsIn opsN
  rw [List.map_map]
  exact sum_le_map fun s _ => valid_length_le n s
theorem st_len (pr xs : List Int) (n : Nat) (ss : List (List O3)) (t : Nat) : (stAt pr xs n ss t).ws.length = ss.length := by
  show (run pr xs (gm0 n (ss.map (valid n))) t).ws.length = _
  rw [run_len]; simp
theorem wd_zero_en {en : List Bool} : wd en = 0 ↔ on 0 en = [] := wd_zero_iff en 0
/-- So soon all have ended. -/
theorem over_le {pr xs : List Int} {n : Nat} {ss : List (List O3)} {t : Nat} (h : ∀ t', t' < t → on 0 (stAt pr xs n ss t').en ≠ []) : t ≤ opsIn (ss.map (valid n)) * (16 * n + 1) := by
  have h1 := run_wt (pr := pr) (picks := xs) (all_ok n ss) t
  have h2 := (run_lin (pr := pr) (picks := xs) (all_ok n ss) t h).1
  omega
theorem lens_le {pr xs : List Int} {n : Nat} {ss : List (List O3)} : ∀ t, (stAt pr xs n ss t).l.length ≤ t
  | 0 => Nat.le_refl _
  | t + 1 => by
    have ih := lens_le (pr := pr) (xs := xs) (n := n) (ss := ss) t
    show (run pr xs (gm0 n (ss.map (valid n))) (t + 1)).l.length ≤ t + 1
    unfold run
    split
    · exact Nat.le_succ_of_le ih
    · show (if _ then _ else _ : List Ev).length ≤ t + 1
      split
      · rw [List.length_append]; exact Nat.succ_le_succ ih
      · exact Nat.le_succ_of_le ih
theorem sum_set_eq {α : Type} {f : α → Nat} {d a : α} : ∀ {l : List α} {i : Nat}, i < l.length → ((l.set i a).map f).sum + f (l.getD i d) = (l.map f).sum + f a
  | b :: l, 0, _ => by simp; omega
  | b :: l, i + 1, hi => by
    have ih := sum_set_eq (f := f) (d := d) (a := a) (l := l) (i := i) (by simpa using hi)
    simp at ih ⊢; omega
/-- How many of its operations have not ended. -/
def Wk.pend (k : Wk) : Nat := k.left.length + if k.on then 1 else 0
theorem beg_pend {k : Wk} (he : k.en = true) (tm : Nat) : (k.beg tm).pend = k.pend := by
  unfold Wk.beg
  split
  · rfl
  · next e =>
    cases hl : k.left with
    | nil => simp [Wk.en, hl] at he; exact absurd he e
    | cons o r => simp [Wk.pend, hl, e]
theorem run_cnt {pr picks : List Int} {n : Nat} {ss : List (List Opn)} (h : ∀ s ∈ ss, ∀ o ∈ s, o.ok n) : ∀ f, (run pr picks (gm0 n ss) f).l.length + ((run pr picks (gm0 n ss) f).ws.map Wk.pend).sum = opsIn ss
  | 0 => by
    show 0 + ((ss.map Wk.new).map Wk.pend).sum = (ss.map List.length).sum
    rw [List.map_map, Nat.zero_add]
    rfl
  | f + 1 => by
    have ih := run_cnt (pr := pr) (picks := picks) h f
    by_cases e : on 0 (run pr picks (gm0 n ss) f).en = []
    · rw [run, if_pos e]; exact ih
    · rw [run_next e]
      generalize hg : run pr picks (gm0 n ss) f = g at *
      have hw := Gm.who_lt (picks := picks) e
      have he := Gm.who_en (picks := picks) e
      generalize g.who picks = w at *
      have G : GInv n pr g := by rw [← hg]; exact run_inv (ginv0 h) f
      have W := went G hw he
      have h1 := sum_set_eq (f := Wk.pend) (d := Wk.new []) (a := g.sp pr w) hw
      have h2 : (g.ws.getD w (Wk.new [])).pend = (g.bg w).pend := (beg_pend he _).symm
      have h3 : (g.bg w).pend = (g.bg w).left.length + 1 := by unfold Wk.pend; rw [W.on]; rfl
      have h4 : (g.sp pr w).pend = (g.bg w).left.length + if (g.sp pr w).t.dn then 0 else 1 := by
        show (g.bg w).left.length + (if (!(tks g.up pr (g.bg w).t).dn) = true then 1 else 0) = _ + if (tks g.up pr (g.bg w).t).dn = true then 0 else 1
        cases (tks g.up pr (g.bg w).t).dn <;> rfl
      have h5 : (adv pr g w).l.length = g.l.length + if (g.sp pr w).t.dn then 1 else 0 := by
        show (if (g.sp pr w).t.dn then g.l ++ [evOf w (g.sp pr w) (g.tm + 1)] else g.l).length = _
        split <;> simp
      show (adv pr g w).l.length + ((g.ws.set w (g.sp pr w)).map Wk.pend).sum = _
      rw [h5]
      rw [h2, h3] at h1
      rw [h4] at h1
      split at h1 <;> split <;> simp_all <;> omega
theorem len_le {pr xs : List Int} {n : Nat} {ss : List (List O3)} (t : Nat) : (stAt pr xs n ss t).l.length ≤ opsIn (ss.map (valid n)) := by
  have := run_cnt (pr := pr) (picks := xs) (all_ok n ss) t
  show (run pr xs (gm0 n (ss.map (valid n))) t).l.length ≤ _
  omega
theorem en_length (pr xs : List Int) (n : Nat) (ss : List (List O3)) (t : Nat) : (stAt pr xs n ss t).en.length = ss.length := by
  rw [← st_len pr xs n ss t]; unfold Gm.en; simp

/-- The game ahead of its first time, when the chooser lies behind it. -/
theorem PS.game {w w5 : World} {lo G B gb cu n C : Nat} {psl : Value} {ss : List (List O3)} (h : PS lo w G B gb cu psl n (ss.map fun s => Wk.new (valid n s))) (hl : lo ≤ w.heap.size) (hb : Below w.heap.size w w5) (hC : w.heap.size ≤ C) (hs : C + 1 ≤ w5.heap.size) (h64 : ss.length ≤ 64) :
    PG w5 lo w.heap.size C (C + 1) G B gb cu (.slice none 0 0) psl n (stAt [] [] n ss 0) := by
  have e : (gm0 n (ss.map (valid n))).ws = ss.map fun s => Wk.new (valid n s) := by unfold gm0; rw [List.map_map]; rfl
  have hu : wd (unders (ss.map fun s => Wk.new (valid n s))) = 0 := by
    have : unders (ss.map fun s => Wk.new (valid n s)) = List.replicate ss.length false := by
      unfold unders
      rw [List.map_map, ← List.map_const' ]
      rfl
    rw [this]; exact wd_replicate_false _
  have hgl := h.gl
  have hbl := h.bl
  have hul := h.ul
  have hbx := h.box.below hb
  refine ⟨?_, h.up.below hb (by omega), ?_, World.ownsRow_nil _ _ _ _, hgl, hbl, hl, hC, by omega, hs, h.gB, fun e => h.gu e.symm, fun e => h.bu e.symm, by omega, fun q hq => (by cases hq), ?_⟩
  · show Box w5 G _ [psl, _, .slice _ (gm0 n (ss.map (valid n))).ws.length (gm0 n (ss.map (valid n))).ws.length, .int .u64 (wd (waits (gm0 n (ss.map (valid n))).ws) : Nat), .int .u64 (wd (unders (gm0 n (ss.map (valid n))).ws) : Nat), _, _]
    rw [e, hu]
    exact hbx
  · show WRow lo w.heap.size w5 B (gm0 n (ss.map (valid n))).ws
    rw [e]
    exact h.rows.agree (fun b hb' => hb.block b (by rcases hb' with rfl | h' <;> omega)) hb.size
  · show (gm0 n (ss.map (valid n))).ws.length ≤ 64
    rw [e]; simpa using h64

set_option maxRecDepth 100000 in
set_option maxHeartbeats 8000000 in
theorem play_any (a b c : Option Addr) (la ca lb cb lc cc : Nat) (pr xs : List Int) (ss : List (List O3)) (w : World) {lp hp ls lx hx : Nat} (hpr : Row lp hp w a la pr) (hp1 : hp ≤ w.heap.size) (hs : Scr ls w b lb ss) (hs1 : ls ≤ w.heap.size) (hxs : Row lx hx w c lc xs) (hx1 : hx ≤ w.heap.size) (hcap : lc ≤ cc)
    (hm1 : la ≤ 4096) (hm2 : lb ≤ 64) (hm3 : opsN ss ≤ 4096) (hm4 : lc ≤ 100000) (hT : Tab w) :
    Calls Tryd.prog 16 #[.slice a la ca, .slice b lb cb, .slice c lc cc] w fun e w' => ∃ (T gb cu : Nat) (ev : Value), e = .returned (.tuple #[ev, .slice (some ⟨gb, 0, none⟩) la cu, .int .i64 (T : Int)]) ∧ Over pr xs la ss T ∧
      w'.ownsRow w.heap.size 42 8 ev (stAt pr xs la ss T).l.length (cellsE (stAt pr xs la ss T).l) ∧ Own w' gb (stAt pr xs la ss T).up ∧ Below w.heap.size w w' := by
  have hsl : ss.length = lb := hs.1
  have hxl : xs.length = lc := hxs.1
  have HMAY : Hid (∀ w0, Scr ls w0 b lb ss → Calls Tryd.prog 33 #[.int .i64 (la : Int), .slice b lb cb] w0 fun e w' => e = .returned (.bool true) ∧ w0 = w') := fun w0 h => by
    have := may_play (la : Int) b lb cb ss w0 h (by omega) (by omega)
    rwa [decide_eq_true (by omega)] at this
  have HS := Lib.hid hs
  have HPR := Lib.hid hpr
  have HX := Lib.hid hxs
  have HT := Lib.hid hT
  have HSL := Lib.hid hsl
  have HXL := Lib.hid hxl
  have hTl := hT.lt
  have HM3 := Lib.hid hm3
  clear hs hpr hxs hT hsl hxl hm3
  go_enter Tryd.func16, Tryd.ntmps16
  go_wp2_with (first | (go_at_call 33; (with_reducible refine (HMAY.out _ HS.out).mono ?_); rintro e w' ⟨rfl, rfl⟩))
  refine (start_any a b la ca lb cb ss _ HS.out hs1 hm1 hm2 HM3.out).mono ?_
  rintro e w3 ⟨lo, G, B, gb, rfl, l1, l2, l3, lsz, hps, hb3⟩
  have s3 := hb3.size
  have HPS := Lib.hid hps
  have HB3 := Lib.hid hb3
  clear hps hb3
  go_wp2_with fail
  refine (by_any c lc cc xs _ (HX.out.below HB3.out hx1) (by omega) (by omega)).mono ?_
  rintro e w5 ⟨C, rfl, htn, hC3, hC5, hb5⟩
  have hpg := HPS.out.game (C := C) lsz hb5 hC3 hC5 (by have := HSL.out; omega)
  have HTN := Lib.hid htn
  have HPG := Lib.hid hpg
  have HB5 : Hid (Below w.heap.size w w5) := HB3.out.trans (hb5.mono s3)
  clear htn hpg hb5
  go_wp2_with fail
  refine (enabled_w w5 _ _ _ _ _ _ _ _ _ _ _ (stAt pr xs la ss 0) HPG.out lb (by rw [st_len, HSL.out])).mono ?_
  rintro e w6 ⟨a6, c6, rfl, hr6, hb6⟩
  have s5 := HB5.out.size
  have s6 := hb6.size
  have HR6 := Lib.hid hr6
  have HB6 : Hid (Below w.heap.size w w6) := HB5.out.trans (hb6.mono s5)
  have HTN6 : Hid (Tn w6 C w3.heap.size C xs 0 (-1)) := HTN.out.below hb6 hC5
  have HPG6 : Hid (PG w6 lo w3.heap.size C (C + 1) G B gb la (.slice none 0 0) (.slice a la ca) la (stAt pr xs la ss 0)) := HPG.out.two (Two.of_below hb6) rfl
  have HT6 : Hid (Tab w6) := HT.out.below HB6.out hTl
  clear hr6 hb6
  go_wp2_with fail
  obtain ⟨x0, hx0⟩ : ∃ x0, nxt xs 0 (-1) (stAt pr xs la ss 0).en = x0 := ⟨_, rfl⟩
  refine (turn_any w6 C _ _ xs 0 (-1) a6 lb c6 _ HTN6.out (by have := HXL.out; omega) HR6.out (Nat.le_refl _) (by omega) HT6.out (by omega) x0 hx0).mono ?_
  rintro e w7 ⟨rfl, htn7, ht7⟩
  have HX0 := Lib.hid hx0
  have HTN7 := Lib.hid htn7
  have s7 := ht7.size
  have HPG7 : Hid (PG w7 lo w3.heap.size C (C + 1) G B gb la (.slice none 0 0) (.slice a la ca) la (stAt pr xs la ss 0)) := HPG6.out.two ht7 rfl
  have HB7 : Hid (Below w.heap.size w w7) := HB6.out.trans (ht7.below (by omega) (by omega) (by omega))
  have HSZ : Hid (w.heap.size ≤ w3.heap.size) := s3
  clear hx0 htn7 ht7 HTN HPG HTN6 HPG6 HT6 HR6 HB5 HB6
  go_wp2_with fail
  obtain ⟨N, hN⟩ : ∃ N, N = opsIn (ss.map (valid la)) * (16 * la + 1) + 1 := ⟨_, rfl⟩
  have HN := Lib.hid hN
  clear hN
  go_loopg [11] (N) (fun gn ev wr => ∃ (t : Nat) (x : Int) (gb cu : Nat) (evv : Value), gn + t = N ∧ ev = .int .i64 x ∧ Hid (nxt xs t (stAt pr xs la ss t).last (stAt pr xs la ss t).en = x) ∧ Hid (PG wr lo w3.heap.size C (C + 1) G B gb cu evv (.slice a la ca) la (stAt pr xs la ss t)) ∧ Hid (on 0 (stAt pr xs la ss t).en ≠ [] → Tn wr C w3.heap.size C xs (t + 1) x) ∧ Hid (Below w.heap.size w wr) ∧ Hid (∀ t', t' < t → on 0 (stAt pr xs la ss t').en ≠ []))
  case atStart => exact ⟨0, x0, gb, la, .slice none 0 0, Nat.add_zero _, rfl, HX0.out, HPG7.out, HTN7.out, HB7.out, fun t h => absurd h (Nat.not_lt_zero _)⟩
  case round =>
    clear HX0 HPG7 HTN7 HB7
    obtain ⟨t, x, gb', cu, evv, hgk, rfl, HXT, HP, HC, HB, HNE⟩ := hrel
    have hsl := HSL.out
    have hbx := HP.out.box
    rw [st_len, hsl] at hbx
    have HLW : (stAt pr xs la ss t).ws.length = lb := by rw [st_len, hsl]
    have q0 := hbx.cell 2
    have q1 := hbx.cell 1
    have q5 := hbx.cell 5
    have q6 := hbx.cell 6
    simp only [List.getElem?_cons_zero, List.getElem?_cons_succ] at q0 q1 q5 q6
    have hGl := hbx.lt
    have hsr := HB.out.size
    have htl := over_le HNE.out
    have hTM : (stAt pr xs la ss t).tm = t := (run_lin (pr := pr) (picks := xs) (all_ok la ss) t HNE.out).1
    have HTM := Lib.hid hTM
    have HLWH := Lib.hid HLW
    by_cases hon : on 0 (stAt pr xs la ss t).en = []
    · obtain rfl : x = -1 := by rw [← HXT.out]; unfold nxt; rw [if_pos hon]
      rw [hTM] at q6
      have HON := Lib.hid hon
      clear hon hbx hTM HLW htl hsl hgk
      go_wp2_with fail
      go_quiet (fail)
      go_wp2_with fail
      refine bodyPost_ret (v := .tuple #[evv, .slice (some ⟨gb', 0, none⟩) la cu, .int .i64 (t : Int)]) (by simp only [results, Tryd.results16]; go_simp) rfl ?_
      refine ⟨t, gb', cu, evv, rfl, ⟨HNE.out, HON.out⟩, ?_, HP.out.up.drewN _, below_drewN' HB.out _⟩
      have he := HP.out.evs
      refine ownsRow_base (ownsRow_agree (w' := wr.drewN nq) he fun q hq => rfl) (by have := HSZ.out; omega)
    · obtain ⟨y, hy⟩ : ∃ y : Nat, whoN xs t (stAt pr xs la ss t).last (stAt pr xs la ss t).en = y := ⟨_, rfl⟩
      obtain rfl : (y : Int) = x := by rw [← HXT.out]; unfold nxt; rw [if_neg hon, hy]
      have hwho : (stAt pr xs la ss t).who xs = y := by unfold Gm.who; rw [hTM]; exact hy
      have hxl2 : y < (stAt pr xs la ss t).ws.length := by rw [← hwho]; exact Gm.who_lt hon
      have hxe : ((stAt pr xs la ss t).wk y).en = true := by rw [← hwho]; exact Gm.who_en hon
      have hGI : GInv la pr (stAt pr xs la ss t) := run_inv (ginv0 (all_ok la ss)) t
      have hW := went hGI hxl2 hxe
      have hnx : stAt pr xs la ss (t + 1) = adv pr (stAt pr xs la ss t) y := by rw [← hwho]; exact run_next hon
      have hTr : Tab wr := HT.out.below HB.out hTl
      have hll := len_le (pr := pr) (xs := xs) (n := la) (ss := ss) t
      have hop := opsIn_valid la ss
      have hmul : opsIn (ss.map (valid la)) * (16 * la + 1) ≤ 4096 * (16 * 4096 + 1) := Nat.mul_le_mul (Nat.le_trans hop HM3.out) (by omega)
      have HGO : Hid (Calls Tryd.prog 38 #[.pointer (some ⟨G, 0, none⟩), .int .i64 (y : Int)] wr fun e w'' => e = .returned (.tuple #[]) ∧ ∃ gb2 cu2 ev2, PG w'' lo w3.heap.size C (C + 1) G B gb2 cu2 ev2 (.slice a la ca) la (stAt pr xs la ss (t + 1)) ∧ Chg (C + 1) G B wr w'') := by
        rw [hnx]
        exact goon_w wr _ _ _ _ G B gb' cu evv a ca la pr (stAt pr xs la ss t) y HP.out hGI hW hxe (HPR.out.below HB.out hp1) (by omega) (by omega) hm1 (by have := HM3.out; omega) (by rw [hTM]; omega)
      have hlast : (stAt pr xs la ss (t + 1)).last = (y : Int) := by rw [hnx]; rfl
      have hT1 := HC.out hon
      have HT1 := Lib.hid hT1
      have HLAST := Lib.hid hlast
      have HONN := Lib.hid hon
      have HTR := Lib.hid hTr
      have hgk1 : t < N := by have := HN.out; omega
      have hlen1 : (stAt pr xs la ss (t + 1)).ws.length = lb := by rw [st_len, hsl]
      have HL1 := Lib.hid hlen1
      have hlo := HP.out.gl
      have hbo := HP.out.bl
      have hlh := HP.out.lh
      have hes := HP.out.es
      obtain ⟨x2, hx2⟩ : ∃ x2, nxt xs (t + 1) (y : Int) (stAt pr xs la ss (t + 1)).en = x2 := ⟨_, rfl⟩
      have HX2 := Lib.hid hx2
      clear hbx hTM HLW htl hsl hon hy hwho hxl2 hxe hGI hW hnx hTr hll hop hmul hlast q1 q5 q6 hT1 hlen1 hx2
      go_wp2_with fail
      refine (HGO.out).mono ?_
      rintro e wg ⟨rfl, gb2, cu2, ev2, hP2, hch2⟩
      have sg := hch2.size
      have HP2 := Lib.hid hP2
      have HTG : Hid (Tn wg C w3.heap.size C xs (t + 1) (y : Int)) := HT1.out.agree fun k hk => hch2.block k (by rcases hk with rfl | hk <;> omega) (by rcases hk with rfl | hk <;> omega) (by rcases hk with rfl | hk <;> omega)
      have HBG : Hid (Below w.heap.size w wg) := HB.out.trans (hch2.below (by omega) l1 l2)
      have HTT : Hid (Tab wg) := HT.out.below HBG.out hTl
      clear hP2 hch2 HGO HTR
      go_wp2_with fail
      refine (enabled_w wg _ _ _ _ _ _ _ _ _ _ _ (stAt pr xs la ss (t + 1)) HP2.out lb HL1.out).mono ?_
      rintro e we ⟨a8, c8, rfl, hr8, hb8⟩
      have s8 := hb8.size
      have HR8 := Lib.hid hr8
      have hCg : C < wg.heap.size := by omega
      have HTE := Lib.hid (HTG.out.below hb8 hCg)
      have HPE : Hid (PG we lo w3.heap.size C (C + 1) G B gb2 cu2 ev2 (.slice a la ca) la (stAt pr xs la ss (t + 1))) := HP2.out.two (Two.of_below hb8) rfl
      have HBE : Hid (Below w.heap.size w we) := HBG.out.trans (hb8.mono HBG.out.size)
      have HTTE : Hid (Tab we) := HT.out.below HBE.out hTl
      clear hr8 hb8
      go_wp2_with fail
      refine (turn_any we C _ _ xs (t + 1) (y : Int) a8 lb c8 _ HTE.out (by have := HXL.out; omega) HR8.out (Nat.le_refl _) (by omega) HTTE.out (by omega) x2 HX2.out).mono ?_
      rintro e wn ⟨rfl, htn9, ht9⟩
      have HTN9 := Lib.hid htn9
      have HPN : Hid (PG wn lo w3.heap.size C (C + 1) G B gb2 cu2 ev2 (.slice a la ca) la (stAt pr xs la ss (t + 1))) := HPE.out.two ht9 rfl
      have HBN : Hid (Below w.heap.size w wn) := HBE.out.trans (ht9.below (by omega) (by omega) (by omega))
      clear htn9 ht9
      have hne' : ∀ t', t' < t + 1 → on 0 (stAt pr xs la ss t').en ≠ [] := fun t' h => by
        by_cases e : t' < t
        · exact HNE.out t' e
        · obtain rfl : t' = t := by omega
          exact HONN.out
      have HNE' := Lib.hid hne'
      clear hne'
      go_wp2_with fail
      go_roundg (gk - 1)
      case measure => omega
      case rel => exact ⟨t + 1, x2, gb2, cu2, ev2, by omega, rfl, by show nxt _ _ _ _ = _; rw [HLAST.out]; exact HX2.out, HPN.out, HTN9.out, HBN.out, HNE'.out⟩

end Go.Proofs.YthhcchdjeeigpaaDoor

namespace Go.Proofs.YthhcchdjeeigpaaDoor
open Go.RowKit
set_option linter.unusedVariables false
set_option linter.unusedSimpArgs false

/-- A slice of slices of bytes that came in. -/
def GridY (W : World) (a : Option Addr) (n : Nat) : Prop :=
  n = 0 ∨ ∃ b off, a = some ⟨b, off, none⟩ ∧ b < W.heap.size ∧ ∀ i, i < n → ∃ A L C xs, W.cell? ⟨b, off + i, none⟩ = some (.slice A L C) ∧ L ≤ C ∧ RowY 0 W.heap.size W A L xs ∧ ∀ j, j < L → xs.getD j 0 ≤ 255

theorem Tryd.opsInfo : (Tryd.prog.info? 43).map (fun i => (i.zero, i.size, i.bytes)) = some (some (.slice none 0 0), 1, 24) := by kernel_rfl

/-- Scripts that were made. -/
def Made (n : Nat) (ss : List (List O3)) : Prop := ∀ s ∈ ss, s.length ≤ 24 ∧ ∀ q ∈ s, okB q.1 q.2.1 q.2.2 n ∧ 0 ≤ q.2.2 ∧ q.2.2 < n
/-- How they lie: those of the outer slice's values so far. -/
def ScrIn (lo : Nat) (w : World) (own : Option Nat) (svs : List Value) (ss : List (List O3)) : Prop :=
  svs.length = ss.length ∧ ∀ (i : Nat) (s : List O3), ss[i]? = some s → ∃ a c, svs[i]? = some (.slice a s.length c) ∧ OpsRow lo w.heap.size w a s.length s ∧ ∀ q, own = some q → 0 < s.length → ∀ b off, a = some ⟨b, off, none⟩ → b ≠ q

theorem run_head {P : Program} {t : TypeId} (ht : P.underlying t = some (.slice (P.elem t))) (hs : (P.info? (P.elem t)).map (fun i => i.size) = some 1) (a : Option Addr) (len cap m : Nat) (hm : m ≤ cap) (w : World) :
    Sem.run P (Instr.slice t (.slice a len cap) none (some (.int .i64 (m : Int))) none) w = .ok (.slice a m cap) w := by
  rw [run_slice_h w t _ len cap ht .i64 m (by omega) (by omega)]
  obtain ⟨i, hi, he⟩ := Option.map_eq_some_iff.1 hs
  simp [sizeOf, typeInfo, hi, sliced, Result.andThen]
  intro _
  cases a with
  | none => rfl
  | some x => simp [Addr.add]

def toO3 (q : Nat × Nat × Nat) : O3 := ((q.1 : Int), (q.2.1 : Int), (q.2.2 : Int))
theorem cellsO_o3 (os : List (Nat × Nat × Nat)) : cellsO os = (os.map toO3).flatMap o3 := by
  unfold cellsO
  rw [List.flatMap_map]
  rfl
theorem o3_length (q : O3) : (o3 q).length = 3 := rfl

theorem grownBy_drew {w w' : World} {r : Option Nat} (h : w.grownBy w' r) : w.grownBy w'.drew r := ⟨h.os, h.tape, h.output, h.size, h.block⟩
theorem grownBy_below {w w' w'' : World} {r : Option Nat} (h : w.grownBy w' r) (k : Below w'.heap.size w' w'') : w.grownBy w'' r := ⟨k.os.trans h.os, k.tape.trans h.tape, k.output.trans h.output, Nat.le_trans h.size k.size, fun q h1 h2 => (k.block q (Nat.lt_of_lt_of_le h1 h.size)).trans (h.block q h1 h2)⟩
theorem grownBy_alloc {w w' : World} {r : Option Nat} (h : w.grownBy w' r) (o : Obj) : w.grownBy (w'.alloc o) r := ⟨h.os, h.tape, h.output, by have := h.size; simp; omega, fun q h1 h2 => (Below.heap_alloc w' o q (Nat.lt_of_lt_of_le h1 h.size)).trans (h.block q h1 h2)⟩
theorem grownBy_grown {w w' w'' : World} {r : Option Nat} (h : w.grownBy w' r) (k : w'.grownBy w'' r) : w.grownBy w'' r := ⟨k.os.trans h.os, k.tape.trans h.tape, k.output.trans h.output, Nat.le_trans h.size k.size, fun q h1 h2 => (k.block q (Nat.lt_of_lt_of_le h1 h.size) h2).trans (h.block q h1 h2)⟩
theorem _root_.Go.World.ownsRow.oneCell {w : World} {base e size n : Nat} {v : Value} {xs : List Value} (h : w.ownsRow base e size v n xs) : v.oneCell' = true := by
  obtain ⟨_, ⟨rfl, _⟩ | ⟨_, _, _, rfl, _⟩⟩ := h <;> rfl

theorem Sl.keep {k lo hi hi' n : Nat} {w w' : World} {a : Option Addr} {xs : List (List Value)} (h : Sl k lo hi w a n xs) (hh : hi ≤ hi') (hb : 0 < n → ∀ b off, a = some ⟨b, off, none⟩ → lo ≤ b → b < hi → w'.heap[b]? = w.heap[b]?) : Sl k lo hi' w' a n xs := by
  obtain ⟨h1, h2⟩ := h
  by_cases h0 : n = 0
  · exact ⟨h1, .inl h0⟩
  · obtain ⟨b, off, rfl, hl, hh', hc⟩ := h2.resolve_left h0
    exact ⟨h1, .inr ⟨b, off, rfl, hl, by omega, hc.agree (hb (by omega) b off rfl hl hh')⟩⟩
theorem ScrIn.snoc {lo : Nat} {wr wz w9 : World} {own : Option Nat} {svs : List Value} {ss : List (List O3)} {a4 : Option Addr} {m4 c4 g : Nat} {os : List O3} {o : Obj} (h : ScrIn lo wr own svs ss) (hl : lo ≤ wr.heap.size) (hown : ∀ q, own = some q → q < wr.heap.size)
    (hb : Below wr.heap.size wr wz) (hg : (wz.alloc o).grownBy w9 own) (hat : own = some g ∨ g = (wz.alloc o).heap.size) (hr : OpsRow wr.heap.size wz.heap.size wz a4 m4 os) : ScrIn lo w9 (some g) (svs ++ [.slice a4 m4 c4]) (ss ++ [os]) := by
  have s1 := hb.size
  have s2 := hg.size
  rw [World.size_alloc] at s2
  have hm : os.length = m4 := by have := hr.1; simpa using this
  refine ⟨by simp [h.1], fun i s hs => ?_⟩
  by_cases hi : i < ss.length
  · rw [List.getElem?_append_left hi] at hs
    obtain ⟨a, c, h1, h2, h3⟩ := h.2 i s hs
    refine ⟨a, c, by rw [List.getElem?_append_left (by rw [h.1]; exact hi)]; exact h1, h2.keep (by omega) fun hn b off e hlo hhi => ?_, fun q hq hn b off e => ?_⟩
    · rw [hg.block b (by simp; omega) (fun e2 => h3 b e2.symm hn b off e rfl), Below.heap_alloc wz o b (by omega), hb.block b hhi]
    · have hqg : g = q := Option.some.inj hq
      subst hqg
      rcases hat with e2 | e2
      · exact h3 g e2 hn b off e
      · rw [World.size_alloc] at e2
        obtain ⟨b', off', e3, _, hh, _⟩ := h2.2.resolve_left (by omega)
        rw [e] at e3
        cases e3
        omega
  · rw [List.getElem?_append_right (by omega)] at hs
    have hz : i - ss.length = 0 := by have := (List.getElem?_eq_some_iff.1 hs).1; simp at this; omega
    rw [hz] at hs
    simp at hs
    subst hs
    refine ⟨a4, c4, by rw [List.getElem?_append_right (by rw [h.1]; omega), h.1, hz, hm]; rfl, ?_, fun q hq hn b off e => ?_⟩
    · rw [hm]
      exact (hr.mono hl (Nat.le_refl _)).keep (by omega) fun hn b off e hlo hhi => by
        obtain ⟨b', off', e3, h5, _, _⟩ := hr.2.resolve_left (by omega)
        rw [e] at e3
        cases e3
        rw [hg.block b (by simp; omega) (fun e2 => by have := hown b e2.symm; omega), Below.heap_alloc wz o b (by omega)]
    · have hqg : g = q := Option.some.inj hq
      subst hqg
      obtain ⟨b', off', e3, h5, h6, _⟩ := hr.2.resolve_left (by omega)
      rw [e] at e3
      cases e3
      rcases hat with e2 | e2
      · have := hown g e2; omega
      · rw [World.size_alloc] at e2; omega
theorem ScrIn.scr {lo base k : Nat} {w : World} {v : Value} {e : TypeId} {svs : List Value} {ss : List (List O3)} (h : ScrIn lo w v.ownBlock svs ss) (ho : w.ownsRow base e 1 v k svs) (hk : ss.length = k) : ∃ a c, v = .slice a ss.length c ∧ Scr w.heap.size w a ss.length ss := by
  obtain ⟨h1, ⟨rfl, h0⟩ | ⟨g, cap, cur, rfl, hb, hg, hn, hcap, hsz, ht⟩⟩ := id ho
  · exact ⟨none, 0, by rw [hk, h0], rfl, .inl (by omega)⟩
  · refine ⟨some ⟨g, 0, none⟩, cap, by rw [hk], rfl, .inr ⟨g, 0, rfl, (Array.getElem?_eq_some_iff.1 hg).1, fun i s hs => ?_⟩⟩
    obtain ⟨a, c, h2, h3, _⟩ := h.2 i s hs
    have hi : i < k := by have := (List.getElem?_eq_some_iff.1 hs).1; omega
    refine ⟨a, c, ?_, h3.mono (Nat.zero_le _) (Nat.le_refl _)⟩
    rw [Nat.zero_add, ho.cellAt i (by omega), h2]

set_option maxRecDepth 100000 in
set_option maxHeartbeats 4000000 in
theorem scripts_any (a : Option Addr) (la ca : Nat) (n : Nat) (w : World) (hg : GridY w a la) (hn0 : 0 < n) (hn : n ≤ 1000) :
    Calls Tryd.prog 21 #[.slice a la ca, .int .i64 (n : Int)] w fun e w' => ∃ a' c' ss, e = .returned (.slice a' ss.length c') ∧ ss.length ≤ 8 ∧ Made n ss ∧ Scr w'.heap.size w' a' ss.length ss ∧ Below w.heap.size w w' := by
  obtain ⟨i0, hi0, hz0, hz1, hz2⟩ := info_parts Tryd.opsInfo
  have HG := Lib.hid hg
  clear hg
  go_enter Tryd.func21, Tryd.ntmps21
  go_wp2_with fail
  go_loopw [5, 6] (fun lv iv wr => ∃ (k : Nat) (svs : List Value) (ss : List (List O3)), k ≤ la ∧ k ≤ 8 ∧ iv = .int .i64 (k : Int) ∧ wr.ownsRow w.heap.size 43 1 lv k svs ∧ Hid (ss.length = k) ∧ Hid (Made n ss) ∧ Hid (ScrIn w.heap.size wr lv.ownBlock svs ss) ∧ Below w.heap.size w wr) (fun _ iv _ => 8 - (intOf iv).toNat)
  case atStart => exact ⟨0, [], [], Nat.zero_le _, Nat.zero_le _, rfl, World.ownsRow_nil _ _ _ _, rfl, fun s hs => absurd hs List.not_mem_nil, ⟨rfl, fun i s hs => absurd hs (by simp)⟩, Below.refl _ _⟩
  case round =>
    obtain ⟨k, svs, ss, hk, hk8, rfl, hown, hkl, hmade, hin, hb⟩ := hrel
    have sr := hb.size
    by_cases hlt : k < la
    · by_cases hlt8 : k < 8
      · obtain ⟨b, off, rfl, hbb, hc⟩ := HG.out.resolve_left (by omega)
        obtain ⟨A, L, C, xs, hcell, hLC, hrow, hby⟩ := hc k hlt
        have d0 := (hb.cell (p := ⟨b, off + k, none⟩) hbb).trans hcell
        have hbw : b < wr.heap.size := by omega
        obtain ⟨m, hm⟩ : ∃ m, m = min L 24 := ⟨_, rfl⟩
        have hrm : RowY 0 w.heap.size w A m (xs.take m) := by
          obtain ⟨h1, h2⟩ := hrow
          refine ⟨by simp; omega, ?_⟩
          rcases h2 with h2 | ⟨b', o', e, h3, h4, h5⟩
          · exact .inl (by omega)
          · refine .inr ⟨b', o', e, h3, h4, fun i hi => ?_⟩
            rw [h5 i (by omega)]
            simp [List.getD, List.getElem?_take, hi]
        have hbm : ∀ j, j < m → (xs.take m).getD j 0 ≤ 255 := fun j hj => by
          have := hby j (by omega)
          simpa [List.getD, List.getElem?_take, hj] using this
        have hmin : (if (24 : Int) < (L : Int) then (24 : Int) else (L : Int)) = (m : Int) := by split <;> omega
        have HOP : Hid (∀ w', Below wr.heap.size wr w' → ∀ CC, Calls Tryd.prog 22 #[.slice A m CC, .int .i64 (n : Int)] w' fun e w'' => ∃ (a4 : Option Addr) (m4 c4 : Nat) (os : List O3), e = .returned (.slice a4 m4 c4) ∧ Hid (m4 ≤ m ∧ ∀ q ∈ os, okB q.1 q.2.1 q.2.2 (n : Int) ∧ 0 ≤ q.2.2 ∧ q.2.2 < (n : Int)) ∧ Hid (OpsRow w'.heap.size w''.heap.size w'' a4 m4 os) ∧ Below w'.heap.size w' w'') := fun w' h CC => by
          refine (ops_any A m CC (xs.take m) n w' (hrm.below (hb.trans (h.mono sr)) (Nat.le_refl _)) hbm (Nat.le_trans sr h.size) (by omega) hn0 hn).mono ?_
          rintro e w'' ⟨v, rfl, ⟨m4, os, h1, h2, h3⟩, hb'⟩
          rw [cellsO_o3] at h2
          have hl : (os.map toO3).length = m4 := by have := h2.1; rw [flat_length o3_length] at this; omega
          obtain ⟨a4, c4, rfl, _, h5⟩ := Sl.of_owns o3_length h2 hl
          refine ⟨a4, m4, c4, os.map toO3, rfl, ⟨h1, fun q hq => ?_⟩, h5, hb'⟩
          obtain ⟨p, hp, rfl⟩ := List.mem_map.1 hq
          obtain ⟨p1, p2, p3, p4⟩ := h3 p hp
          exact ⟨⟨by show (1 : Int) ≤ (p.1 : Int); omega, by show (p.1 : Int) ≤ 3; omega, ⟨by show (0 : Int) ≤ (p.2.1 : Int); omega, by show (p.2.1 : Int) < n; omega⟩, fun _ => ⟨by show (0 : Int) ≤ (p.2.2 : Int); omega, by show (p.2.2 : Int) < n; omega⟩⟩, by show (0 : Int) ≤ (p.2.2 : Int); omega, by show (p.2.2 : Int) < n; omega⟩
        have K : ∀ w', wr.grownBy w' u5.ownBlock → (wr.grownBy w' u5.ownBlock ∧ w'.cell? ⟨b, off + k, none⟩ = some (.slice A L C)) := fun w' h =>
          ⟨h, (World.cell?_of_block (h.block b hbw (fun e => by have := (hown.lt b e.symm).1; omega))).trans d0⟩
        have HK := Lib.hid K
        have HM := Lib.hid hm
        have HB := Lib.hid hb
        have HOWN := Lib.hid hown
        have hmL : (m : Int) ≤ (C : Int) := by omega
        have hm24 : m ≤ 24 := by omega
        clear hc hcell hrow hby hrm hbm K d0 hm hb hown
        have HRUN : ∀ W, Sem.run Tryd.prog (Instr.slice 35 (.slice A L C) none (some (.int .i64 (m : Int))) none) W = .ok (.slice A m C) W := fun W => run_head Tryd.underlying35 (by kernel_rfl) A L C m (by omega) W
        have HNEWS : Hid (∀ (W : World) (v : Value) (q : Nat) (u : Value), [v][q]? = some u → (W.alloc (.cells #[v] 43)).cell? (Addr.add ⟨W.heap.size, 0, none⟩ q) = some u) := by
          intro W v q u hq
          match q, hq with
          | 0, hq => simp at hq; subst hq; simp [Addr.add]
        have q1 : k + 1 ≤ maxLen := by unfold maxLen; omega
        have q2 : (k + 1) * 24 ≤ 140737488355328 := by omega
        have Q1 := Lib.hid q1
        have Q2 := Lib.hid q2
        have HONE : Hid (∀ (a : Option Addr) (m c : Nat), ∀ u ∈ [Value.slice a m c], u.oneCell' = true) := by
          intro a m c u hu
          simp at hu
          subst hu
          rfl
        have Q3 : Hid (∀ (W : World) (o : Obj), wr.heap.size ≤ W.heap.size → w.heap.size ≤ (W.alloc o).heap.size) := fun W o h => by simp; omega
        clear q1 q2
        go_wp2_with fail
        go_region_held3 (fun w' => wr.grownBy w' u5.ownBlock ∧ w'.cell? ⟨b, off + k, none⟩ = some (.slice A L C))
          (first
            | exact HK.out _ (grownBy_drew (World.grownBy.refl _ _))
            | exact HK.out _ (grownBy_below (And.left (by assumption)) hbz)
            | exact HK.out _ (grownBy_alloc (And.left (by assumption)) _)
            | exact HK.out _ (grownBy_grown (And.left (by assumption)) hgrow))
          (first
            | (go_at_call 22; (with_reducible refine (HOP.out _ ?_ _).mono ?_); exact (Below.refl wr.heap.size wr).drew; rintro e wz ⟨a4, m4, c4, os, rfl, hos, hrw, hbz⟩)
            | (refine step_append_lies _ rfl _ _ _ rfl w.heap.size 43 i0 (.slice none 0 0) 1 24 Tryd.underlying23 hi0 hz0 hz1 hz2 rfl (by decide) _ k svs rfl ((ownsRow_below HOWN.out.drew hbz).alloc _) ⟨wz.heap.size, 0, none⟩ 1 1 [.slice a4 m4 c4] rfl rfl (HNEWS.out _ _) (HONE.out _ _ _) (by decide) Q1.out Q2.out (Q3.out _ _ hbz.size) _ rfl ?_; intro g cap w9 hown9 hgrow hat hlt9))
        have hgr : (wz.alloc (.cells #[.slice a4 m4 c4] 43)).grownBy w9 u5.ownBlock := hgrow
        have hat' : u5.ownBlock = some g ∨ g = (wz.alloc (.cells #[.slice a4 m4 c4] 43)).heap.size := hat
        have hbz' : Below wr.heap.size wr wz := (Below.refl wr.heap.size wr).drew.trans hbz
        have hin9 := hin.out.snoc (c4 := c4) sr (fun q hq => (HOWN.out.lt q hq).2) hbz' hgr hat' hrw.out
        have hb9 : Below w.heap.size w w9 := below_grown (below_alloc (below_next HB.out hbz' (Nat.le_refl _)) (Nat.le_refl _) _) hgr (Nat.le_refl _) (fun q hq => (HOWN.out.lt q hq).1)
        have HM9 : Hid (Made n (ss ++ [os])) := fun s hs => by
          rcases List.mem_append.1 hs with h | h
          · exact hmade.out s h
          · simp at h; subst h
            have := hrw.out.1
            simp at this
            exact ⟨by have := hos.out.1; omega, hos.out.2⟩
        have HL9 : Hid ((ss ++ [os]).length = k + 1) := by show _ = _; rw [List.length_append, hkl.out]; rfl
        clear hgrow hat hgr hat' hbz' hrw hos
        go_wp2_with fail
        go_roundw
        case rel => exact ⟨k + 1, _, _, by omega, by omega, by go_num, hown9, HL9, HM9, hin9, hb9⟩
        case measure => simp [intOf]; omega
      · obtain rfl : k = 8 := by omega
        go_wp2_with fail
        go_ret
        obtain ⟨a', c', e, hs⟩ := hin.out.scr hown hkl.out
        exact ⟨a', c', ss, by rw [← e]; rfl, by have := hkl.out; omega, hmade.out, hs, hb⟩
    · obtain rfl : k = la := by omega
      go_wp2_with fail
      go_ret
      obtain ⟨a', c', e, hs⟩ := hin.out.scr hown hkl.out
      exact ⟨a', c', ss, by rw [← e]; rfl, by have := hkl.out; omega, hmade.out, hs, hb⟩

end Go.Proofs.YthhcchdjeeigpaaDoor

namespace Go.Proofs.YthhcchdjeeigpaaDoor
open Go.RowKit
set_option linter.unusedVariables false
set_option linter.unusedSimpArgs false

theorem Over.uniq {pr xs : List Int} {n : Nat} {ss : List (List O3)} {T T' : Nat} (h : Over pr xs n ss T) (h' : Over pr xs n ss T') : T = T' := by
  rcases Nat.lt_trichotomy T T' with e | e | e
  · exact absurd h.2 (h'.1 T e)
  · exact e
  · exact absurd h'.2 (h.1 T' e)

theorem awk_over : Over [1, 2] [] 2 [[(3, 0, 1)]] 3 := by
  refine ⟨fun t ht => ?_, by decide⟩
  have : t = 0 ∨ t = 1 ∨ t = 2 := by omega
  rcases this with rfl | rfl | rfl <;> decide
theorem awk_l : (stAt [1, 2] [] 2 [[(3, 0, 1)]] 3).l = [⟨0, 3, 0, 1, 1, 1, 3, 3⟩] := by decide
theorem awk_up : (stAt [1, 2] [] 2 [[(3, 0, 1)]] 3).up = [1, 1] := by decide
theorem nil_over (pr : List Int) (n : Nat) : Over pr [] n [] 0 := ⟨fun t ht => absurd ht (Nat.not_lt_zero _), rfl⟩

theorem scr_one (w : World) (o1 : Obj) : Scr (((w.alloc o1).alloc (.cells #[.int .i64 3, .int .i64 0, .int .i64 1] 40)).alloc (.cells #[.slice (some ⟨w.heap.size + 1, 0, none⟩) 1 1] 43)).heap.size
    (((w.alloc o1).alloc (.cells #[.int .i64 3, .int .i64 0, .int .i64 1] 40)).alloc (.cells #[.slice (some ⟨w.heap.size + 1, 0, none⟩) 1 1] 43)) (some ⟨w.heap.size + 1 + 1, 0, none⟩) 1 [[(3, 0, 1)]] := by
  have b1 := (Box.new (w.alloc o1) 40 [.int .i64 3, .int .i64 0, .int .i64 1]).alloc (.cells #[.slice (some ⟨w.heap.size + 1, 0, none⟩) 1 1] 43)
  have b2 := Box.new ((w.alloc o1).alloc (.cells #[.int .i64 3, .int .i64 0, .int .i64 1] 40)) 43 [.slice (some ⟨w.heap.size + 1, 0, none⟩) 1 1]
  rw [World.size_alloc] at b1
  rw [World.size_alloc, World.size_alloc] at b2
  refine ⟨rfl, .inr ⟨w.heap.size + 1 + 1, 0, rfl, by simp, fun i s hs => ?_⟩⟩
  have hi : i = 0 := by have := (List.getElem?_eq_some_iff.1 hs).1; simp at this; exact this
  subst hi
  simp at hs
  subst hs
  refine ⟨_, _, b2.cell 0, rfl, .inr ⟨w.heap.size + 1, 0, rfl, Nat.zero_le _, by simp, fun i x hx j v hv => ?_⟩⟩
  have hi : i = 0 := by have := (List.getElem?_eq_some_iff.1 hx).1; simp at this; exact this
  subst hi
  simp at hx
  subst hx
  simp only [Nat.zero_mul, Nat.zero_add]
  exact (b1.cell j).trans hv

set_option maxRecDepth 100000 in
set_option maxHeartbeats 4000000 in
theorem awake_any5 (w : World) (hT : Tab w) : Calls Tryd.prog 15 #[] w fun e w' => e = .returned (.bool true) ∧ Below w.heap.size w w' := by
  have hg0 : ∀ o1 o2 o3, Below w.heap.size w (((w.alloc o1).alloc o2).alloc o3) := fun o1 o2 o3 => by go_grown
  have HT := Lib.hid hT
  clear hT
  go_enter Tryd.func15, Tryd.ntmps15
  go_wp2_with fail
  have hsc := scr_one w (.cells #[.int .i64 1, .int .i64 2] 3)
  have hpr : Row w.heap.size (w.heap.size + 1) (((w.alloc (.cells #[.int .i64 1, .int .i64 2] 3)).alloc (.cells #[.int .i64 3, .int .i64 0, .int .i64 1] 40)).alloc (.cells #[.slice (some ⟨w.heap.size + 1, 0, none⟩) 1 1] 43)) (some ⟨w.heap.size, 0, none⟩) 2 [1, 2] := by
    have b1 := ((Box.new w 3 [.int .i64 1, .int .i64 2]).alloc (.cells #[.int .i64 3, .int .i64 0, .int .i64 1] 40)).alloc (.cells #[.slice (some ⟨w.heap.size + 1, 0, none⟩) 1 1] 43)
    refine ⟨rfl, .inr ⟨w.heap.size, 0, rfl, Nat.le_refl _, by omega, fun i hi => ?_⟩⟩
    have : i = 0 ∨ i = 1 := by omega
    rcases this with rfl | rfl
    · exact b1.cell 0
    · exact b1.cell 1
  have hbg := hg0 (.cells #[.int .i64 1, .int .i64 2] 3) (.cells #[.int .i64 3, .int .i64 0, .int .i64 1] 40) (.cells #[.slice (some ⟨w.heap.size + 1, 0, none⟩) 1 1] 43)
  have hTg := HT.out.below hbg HT.out.lt
  have hsg : w.heap.size + 1 ≤ (((w.alloc (.cells #[.int .i64 1, .int .i64 2] 3)).alloc (.cells #[.int .i64 3, .int .i64 0, .int .i64 1] 40)).alloc (.cells #[.slice (some ⟨w.heap.size + 1, 0, none⟩) 1 1] 43)).heap.size := by simp
  generalize ((w.alloc (.cells #[.int .i64 1, .int .i64 2] 3)).alloc (.cells #[.int .i64 3, .int .i64 0, .int .i64 1] 40)).alloc (.cells #[.slice (some ⟨w.heap.size + 1, 0, none⟩) 1 1] 43) = w3 at *
  refine (play_any (some ⟨w.heap.size, 0, none⟩) (some ⟨w.heap.size + 1 + 1, 0, none⟩) none 2 2 1 1 0 0 [1, 2] [] [[(3, 0, 1)]] w3 hpr hsg hsc (Nat.le_refl _) (lx := 0) (hx := 0) ⟨rfl, .inl rfl⟩ (Nat.zero_le _) (Nat.le_refl _) (by omega) (by omega) (by decide) (by omega) hTg).mono ?_
  rintro e w4 ⟨T, gb, cu, ev, rfl, hov, hown, hup, hb4⟩
  obtain rfl : T = 3 := hov.uniq awk_over
  rw [awk_l] at hown
  rw [awk_up] at hup
  obtain ⟨g, cap, rfl, hg1, hg2⟩ := hown.form (by decide)
  have s4 := hb4.size
  have hTl := hTg.lt
  have hT4 := hTg.below hb4 hTl
  have HOWN := Lib.hid hown
  have HUP := Lib.hid hup
  have HB4 : Hid (Below w.heap.size w w4) := hbg.trans (hb4.mono (by omega))
  have HT4 := Lib.hid hT4
  clear hov hown hup hb4 hsc hpr hbg hTg hT4 hg0
  go_wp2_with fail
  refine (play_any none none none 0 0 0 0 0 0 [] [] [] w4 (lp := 0) (hp := 0) ⟨rfl, .inl rfl⟩ (Nat.zero_le _) (ls := 0) ⟨rfl, .inl rfl⟩ (Nat.zero_le _) (lx := 0) (hx := 0) ⟨rfl, .inl rfl⟩ (Nat.zero_le _) (Nat.le_refl _) (by omega) (by omega) (by decide) (by omega) HT4.out).mono ?_
  rintro e w5 ⟨T, gb2, cu2, ev2, rfl, hov, hown2, _, hb5⟩
  obtain rfl : T = 0 := hov.uniq (nil_over [] 0)
  obtain ⟨a2, c2, rfl⟩ : ∃ a c, ev2 = .slice a 0 c := by
    obtain ⟨_, ⟨rfl, _⟩ | ⟨g, cap, cur, rfl, _⟩⟩ := hown2
    · exact ⟨_, _, rfl⟩
    · exact ⟨_, _, rfl⟩
  have s5 := hb5.size
  have HB5 : Hid (Below w.heap.size w w5) := HB4.out.trans (hb5.mono (by have := HB4.out.size; omega))
  have ho5 := ownsRow_below HOWN.out hb5
  have c4 := ho5.cellAt 4 (by decide)
  have c7 := ho5.cellAt 7 (by decide)
  have e4 : (cellsE [⟨0, 3, 0, 1, 1, 1, 3, 3⟩])[4]? = some (.int .i64 1) := rfl
  have e7 : (cellsE [⟨0, 3, 0, 1, 1, 1, 3, 3⟩])[7]? = some (.int .i64 3) := rfl
  rw [e4] at c4
  rw [e7] at c7
  have hu5 := HUP.out.below hb5 HUP.out.1
  have hg5 : g < w5.heap.size := by omega
  have b11 := (Box.new w5 3 [.int .i64 1, .int .i64 1])
  have r11 : RowN w5.heap.size (w5.alloc (.cells #[.int .i64 1, .int .i64 1] 3)).heap.size (w5.alloc (.cells #[.int .i64 1, .int .i64 1] 3)) (some ⟨w5.heap.size, 0, none⟩) 2 [1, 1] := by
    refine ⟨rfl, .inr ⟨w5.heap.size, 0, rfl, Nat.le_refl _, by simp, fun i hi => ?_⟩⟩
    have : i = 0 ∨ i = 1 := by omega
    rcases this with rfl | rfl
    · exact b11.cell 0
    · exact b11.cell 1
  have hu6 := (hu5.alloc (.cells #[.int .i64 1, .int .i64 1] 3)).row (n := 2) (lo := 0) (hi := w5.heap.size) rfl (Nat.zero_le _) hu5.1
  have HI : Hid (Calls Tryd.prog 19 #[.slice (some ⟨gb, 0, none⟩) 2 cu, .slice (some ⟨w5.heap.size, 0, none⟩) 2 2] (w5.alloc (.cells #[.int .i64 1, .int .i64 1] 3)) fun e w' => e = .returned (.bool true) ∧ ∃ n, w' = (w5.alloc (.cells #[.int .i64 1, .int .i64 1] 3)).drewN n) := by
    have := ints_any _ _ 2 2 cu 2 _ _ _ hu6.ints r11.ints (by omega)
    simp at this
    exact this
  clear hov hown2 hb5 ho5 hu5 b11 r11 hu6 e4 e7 HUP HOWN HT4 HB4
  go_wp2_with (first | (go_at_call 19; (with_reducible refine (HI.out).mono ?_); rintro e w' ⟨rfl, n, rfl⟩))
  go_ret
  exact ⟨rfl, below_drewN' (HB5.out.alloc (by omega) _) _⟩

end Go.Proofs.YthhcchdjeeigpaaDoor

namespace Go.Proofs.YthhcchdjeeigpaaDoor
open Go.RowKit Go.WideShapes Go.ChangeShapes

theorem RowF.of_cells {α : Type} {f : α → Value} {d : α} {w : World} {x : Addr} {len cap : Nat} {zs : List α} (hl : len ≤ cap) (hz : zs.length = cap) (hcell : ∀ i, i < zs.length → w.cell? (x.add i) = some (f (zs.getD i d))) :
    RowF f d 0 w.heap.size w (some x) len (zs.take len) := by
  refine ⟨by simp; omega, ?_⟩
  by_cases h0 : len = 0
  · exact .inl h0
  · obtain ⟨b, off, spot⟩ := x
    have hc := hcell 0 (by omega)
    have hspot : spot = none := by simpa [Addr.add] using World.cell?_spot hc
    subst hspot
    refine .inr ⟨b, off, rfl, Nat.zero_le _, World.block_lt_of_cell? _ _ hc, fun i hi => ?_⟩
    have := hcell i (by omega)
    rw [Addr.add_lit] at this
    rw [this]
    simp [List.getD, hi]

/-- A slice of ints that came in, read. -/
theorem Row_of_trod {H : Type} {enc : TypeId × Value → H} {P : Program} {w : World} {t e : TypeId} {fuel : Nat} {cs : List Value} {x : DataW H × List MemPlace} {a : Option Addr} {len cap : Nat}
    (ht : P.underlying t = some (.slice e)) (he : P.underlying e = some (.int .i64)) (hc : P.cellsOf e = 1) (h : DataW.trod enc P w 0 (fun _ => true) true fuel t cs = some x) (hcs : cs = [.slice a len cap]) :
    ∃ xs, Row 0 w.heap.size w a len xs := by
  subst hcs
  rcases open_ints ht he hc h with ⟨hcs, _⟩ | ⟨y, l, c, zs, hcs, _, hl, hm, hz, _, hcell, hwz⟩
  · simp at hcs
    obtain ⟨rfl, rfl, rfl⟩ := hcs
    exact ⟨[], rfl, .inl rfl⟩
  · simp at hcs
    obtain ⟨rfl, rfl, rfl⟩ := hcs
    exact ⟨_, RowF.of_cells hl (by simpa using hz) hcell⟩

/-- A slice of bools that came in, read. -/
theorem RowB_of_trod {H : Type} {enc : TypeId × Value → H} {P : Program} {w : World} {t e : TypeId} {fuel : Nat} {cs : List Value} {x : DataW H × List MemPlace} {a : Option Addr} {len cap : Nat}
    (ht : P.underlying t = some (.slice e)) (he : P.underlying e = some .bool) (hc : P.cellsOf e = 1) (h : DataW.trod enc P w 0 (fun _ => true) true fuel t cs = some x) (hcs : cs = [.slice a len cap]) :
    ∃ xs, RowB 0 w.heap.size w a len xs := by
  subst hcs
  rcases Deep.open_bools ht he hc h with ⟨hcs, _⟩ | ⟨y, l, c, B, hcs, _, hl, hm, hz, hcell⟩
  · simp at hcs
    obtain ⟨rfl, rfl, rfl⟩ := hcs
    exact ⟨[], rfl, .inl rfl⟩
  · simp at hcs
    obtain ⟨rfl, rfl, rfl⟩ := hcs
    refine ⟨_, RowF.of_cells (zs := (List.range cap).map B) hl (by simp) fun i hi => ?_⟩
    have hi' : i < cap := by simpa using hi
    rw [hcell i hi']; simp [List.getD, hi']

/-- A slice that came in is no longer than a slice may be. -/
theorem len_of_trod {H : Type} {enc : TypeId × Value → H} {P : Program} {w : World} {t e : TypeId} {d : DataW H} {p : List MemPlace} {a : Option Addr} {len cap : Nat}
    (ht : P.underlying t = some (.slice e)) (he : P.underlying e = some .bool) (hc : P.cellsOf e = 1) (h : DataW.Trod enc P w 0 (fun _ => true) true t (.slice a len cap) d p) : len ≤ 9223372036854775807 := by
  obtain ⟨fuel, hf⟩ := h
  rcases Deep.open_bools ht he hc hf with ⟨hcs, _⟩ | ⟨y, l, c, B, hcs, _, hl, hm, _, _⟩
  · have : len = 0 := by
      have := congrArg (·[0]?) hcs
      simp [Value.cells] at this; exact this.2.1
    omega
  · have : len = l ∧ cap = c := by
      have := congrArg (·[0]?) hcs
      simp [Value.cells] at this; exact this.2
    unfold maxLen at hm
    omega

end Go.Proofs.YthhcchdjeeigpaaDoor

namespace Go.Proofs.YthhcchdjeeigpaaDoor
open Go.RowKit Go.WideShapes Go.ChangeShapes

/-- A slice of bytes that came in, read. -/
theorem RowY_of_trod {H : Type} {enc : TypeId × Value → H} {P : Program} {w : World} {t e : TypeId} {fuel : Nat} {cs : List Value} {x : DataW H × List MemPlace} {a : Option Addr} {len cap : Nat}
    (ht : P.underlying t = some (.slice e)) (he : P.underlying e = some (.int .u8)) (hc : P.cellsOf e = 1) (h : DataW.trod enc P w 0 (fun _ => true) true fuel t cs = some x) (hcs : cs = [.slice a len cap]) :
    ∃ xs, RowY 0 w.heap.size w a len xs ∧ ∀ i, i < len → xs.getD i 0 ≤ 255 := by
  subst hcs
  rcases open_ints ht he hc h with ⟨hcs, _⟩ | ⟨y, l, c, zs, hcs, _, hl, hm, hz, _, hcell, hwz⟩
  · simp at hcs
    obtain ⟨rfl, rfl, rfl⟩ := hcs
    exact ⟨[], ⟨rfl, .inl rfl⟩, fun i hi => absurd hi (by omega)⟩
  · simp at hcs
    obtain ⟨rfl, rfl, rfl⟩ := hcs
    have hz : zs.length = cap := by simpa using hz
    have hr := RowF.of_cells (f := Value.int .u8) (d := (0 : Int)) hl hz hcell
    have hb : ∀ i, i < len → 0 ≤ (zs.take len).getD i 0 ∧ (zs.take len).getD i 0 ≤ 255 := fun i hi => by
      have : (zs.take len).getD i 0 = zs[i]'(by omega) := by simp [List.getD, hi, show i < zs.length by omega]
      rw [this]
      exact bounds_u8 (hwz _ (List.getElem_mem _))
    obtain ⟨h1, h2⟩ := hr
    have e : ∀ i, i < len → ((zs.take len).map Int.toNat).getD i 0 = ((zs.take len).getD i 0).toNat := fun i hi => by
      simp [List.getD, hi, show i < zs.length by omega]
    refine ⟨(zs.take len).map Int.toNat, ⟨by simpa using h1, ?_⟩, fun i hi => ?_⟩
    · rcases h2 with h2 | ⟨b, off, e1, hb1, hh, hcl⟩
      · exact .inl h2
      · exact .inr ⟨b, off, e1, hb1, hh, fun i hi => by rw [hcl i hi, e i hi]; dsimp only; rw [Int.toNat_of_nonneg (hb i hi).1]⟩
    · rw [e i hi]
      have := hb i hi
      omega

theorem three_of {l : List Value} (h : (Array.mk l).size = 3) : ∃ c0 c1 c2, l = [c0, c1, c2] := by
  have h : l.length = 3 := h
  match l, h with
  | [c0, c1, c2], _ => exact ⟨c0, c1, c2, rfl⟩

/-- A slice of bytes that came in is no longer than a slice may be. -/
theorem leny_of_trod {H : Type} {enc : TypeId × Value → H} {P : Program} {w : World} {t e : TypeId} {fuel : Nat} {cs : List Value} {x : DataW H × List MemPlace} {a : Option Addr} {len cap : Nat}
    (ht : P.underlying t = some (.slice e)) (he : P.underlying e = some (.int .u8)) (hc : P.cellsOf e = 1) (h : DataW.trod enc P w 0 (fun _ => true) true fuel t cs = some x) (hcs : cs = [.slice a len cap]) : len ≤ 9223372036854775807 := by
  subst hcs
  rcases open_ints ht he hc h with ⟨hcs, _⟩ | ⟨y, l, c, zs, hcs, _, hl, hm, hz, _, hcell, hwz⟩
  · simp at hcs
    omega
  · simp at hcs
    unfold maxLen at hm
    omega

end Go.Proofs.YthhcchdjeeigpaaDoor

namespace Go.Proofs.YthhcchdjeeigpaaDoor
open Go.RowKit Go.WideShapes Go.ChangeShapes

theorem cap_of_trod {H : Type} {enc : TypeId × Value → H} {P : Program} {w : World} {t e : TypeId} {fuel : Nat} {cs : List Value} {x : DataW H × List MemPlace} {a : Option Addr} {len cap : Nat}
    (ht : P.underlying t = some (.slice e)) (he : P.underlying e = some (.int .i64)) (hc : P.cellsOf e = 1) (h : DataW.trod enc P w 0 (fun _ => true) true fuel t cs = some x) (hcs : cs = [.slice a len cap]) : len ≤ cap := by
  subst hcs
  rcases open_ints ht he hc h with ⟨hcs, _⟩ | ⟨y, l, c, zs, hcs, _, hl, _⟩
  · simp at hcs; omega
  · simp at hcs; omega

theorem nilz_of_trod {H : Type} {enc : TypeId × Value → H} {P : Program} {w : World} {t e : TypeId} {fuel : Nat} {cs : List Value} {x : DataW H × List MemPlace} {a : Option Addr} {len cap : Nat}
    (ht : P.underlying t = some (.slice e)) (he : P.underlying e = some (.int .i64)) (hc : P.cellsOf e = 1) (h : DataW.trod enc P w 0 (fun _ => true) true fuel t cs = some x) (hcs : cs = [.slice a len cap]) : a = none → len = 0 ∧ cap = 0 := by
  subst hcs
  rintro rfl
  rcases open_ints ht he hc h with ⟨hcs, _⟩ | ⟨y, l, c, zs, hcs, _, hl, _⟩
  · simp at hcs; omega
  · simp at hcs

theorem GridY_of_trod {H : Type} {enc : TypeId × Value → H} {P : Program} {w : World} {t e q : TypeId} {fuel : Nat} {cs : List Value} {x : DataW H × List MemPlace} {a : Option Addr} {len cap : Nat}
    (ht : P.underlying t = some (.slice e)) (he : P.underlying e = some (.slice q)) (hq : P.underlying q = some (.int .u8)) (ce : P.cellsOf e = 1) (cq : P.cellsOf q = 1)
    (h : DataW.trod enc P w 0 (fun _ => true) true fuel t cs = some x) (hcs : cs = [.slice a len cap]) : GridY w a len := by
  subst hcs
  rcases Deep.open_int_rows ht he hq ce cq h with ⟨hcs, _⟩ | ⟨y, l, c, A, L, C, Z, hcs, _, hl, hm, _, hrow⟩
  · simp at hcs
    exact .inl hcs.2.1
  · simp at hcs
    obtain ⟨rfl, rfl, rfl⟩ := hcs
    by_cases h0 : len = 0
    · exact .inl h0
    · obtain ⟨b, off, spot⟩ := y
      have hc := (hrow 0 (by omega)).1
      have hspot : spot = none := by simpa [Addr.add] using World.cell?_spot hc
      subst hspot
      refine .inr ⟨b, off, rfl, World.block_lt_of_cell? _ _ hc, fun k hk => ?_⟩
      obtain ⟨h1, h2, h3, h4, h5, h6, h7⟩ := hrow k (by omega)
      rw [Addr.add_lit] at h1
      have hb : ∀ i, i < L k → 0 ≤ ((Z k).take (L k)).getD i 0 ∧ ((Z k).take (L k)).getD i 0 ≤ 255 := fun i hi => by
        have : ((Z k).take (L k)).getD i 0 = (Z k)[i]'(by omega) := by simp [List.getD, hi, show i < (Z k).length by omega]
        rw [this]
        exact bounds_u8 (h5 _ (List.getElem_mem _))
      have e : ∀ i, i < L k → (((Z k).take (L k)).map Int.toNat).getD i 0 = (((Z k).take (L k)).getD i 0).toNat := fun i hi => by
        simp [List.getD, hi, show i < (Z k).length by omega]
      refine ⟨A k, L k, C k, ((Z k).take (L k)).map Int.toNat, h1, h2, ?_, fun i hi => ?_⟩
      · cases hA : A k with
        | none =>
          have hz : L k = 0 := by have := h6 hA; omega
          exact ⟨by simp; omega, .inl hz⟩
        | some y =>
          have hr := RowF.of_cells (f := Value.int .u8) (d := (0 : Int)) h2 h4 (fun i hi => (h7 y hA).2 i (by omega))
          obtain ⟨r1, r2⟩ := hr
          refine ⟨by simpa using r1, ?_⟩
          rcases r2 with r2 | ⟨b', o', e1, hb1, hh, hcl⟩
          · exact .inl r2
          · exact .inr ⟨b', o', e1, hb1, hh, fun i hi => by rw [hcl i hi, e i hi]; dsimp only; rw [Int.toNat_of_nonneg (hb i hi).1]⟩
      · rw [e i hi]
        have := hb i hi
        omega

end Go.Proofs.YthhcchdjeeigpaaDoor

namespace Go.Proofs.YthhcchdjeeigpaaDoor
open Go.RowKit
set_option linter.unusedVariables false

theorem rsame_any (a : Option Addr) (la ca : Nat) (p : List Nat) (x y : Int) (w : World) {lo hi : Nat} (hp : RowN lo hi w a la p) (hm : la ≤ 9223372036854775807) :
    Calls Tryd.prog 24 #[.slice a la ca, .int .i64 x, .int .i64 y] w fun e w' => e = .returned (.bool (sameB p x y)) ∧ ∃ n, w' = w.drewN n := by
  have hl := hp.1
  by_cases hx : 0 ≤ x ∧ x < la
  · by_cases hy : 0 ≤ y ∧ y < la
    · obtain ⟨i, rfl⟩ : ∃ i : Nat, x = i := ⟨x.toNat, by omega⟩
      obtain ⟨j, rfl⟩ : ∃ j : Nat, y = j := ⟨y.toNat, by omega⟩
      have hi' : i < la := by omega
      have hj' : j < la := by omega
      obtain ⟨b, off, rfl, _, _, hc⟩ := hp.at_ hi'
      have ci := hc i hi'
      have cj := hc j hj'
      have e : sameB p i j = decide (el p i = el p j) := by
        unfold sameB; rw [decide_eq_decide]; simp; omega
      obtain ⟨u, hu⟩ : ∃ u, el p i = u := ⟨_, rfl⟩
      obtain ⟨v, hv⟩ : ∃ v, el p j = v := ⟨_, rfl⟩
      rw [e]
      rw [hu] at ci ⊢
      rw [hv] at cj ⊢
      have hx0 : (0 : Int) ≤ i := by omega
      have hy0 : (0 : Int) ≤ j := by omega
      have hx1 : (i : Int) < la := by omega
      have hy1 : (j : Int) < la := by omega
      clear hc hl hp e hu hv hx hy
      go_enter Tryd.func24, Tryd.ntmps24
      go_wp2_with fail
      go_quiet ((go_at_call 44; refine Calls.quiet_of_same (rthere_yes_q _ _ _ (by assumption) (by assumption))))
      go_wp2_with fail
      go_ret
      exact ⟨ret_bool (cast_beq _ _), nq, rfl⟩
    · have e : sameB p x y = false := by unfold sameB; simp; omega
      obtain ⟨hx0, hx1⟩ := hx
      rw [e]
      clear e hp hl
      go_enter Tryd.func24, Tryd.ntmps24
      go_wp2_with fail
      go_quiet (first | (go_at_call 44; refine Calls.quiet_of_same (rthere_no_q _ _ _ (by assumption))) | (go_at_call 44; refine Calls.quiet_of_same (rthere_yes_q _ _ _ (by assumption) (by assumption))))
      go_wp2_with fail
      go_ret
      exact ⟨rfl, nq, rfl⟩
  · have e : sameB p x y = false := by unfold sameB; simp; omega
    rw [e]
    clear e hp hl
    go_enter Tryd.func24, Tryd.ntmps24
    go_wp2_with fail
    go_quiet ((go_at_call 44; refine Calls.quiet_of_same (rthere_no_q _ _ _ (by assumption))))
    go_wp2_with fail
    go_ret
    exact ⟨rfl, nq, rfl⟩

/-- How many of the first k are least elements. -/
def clsK (p : List Nat) (k : Nat) : Nat := (List.range k).countP (fun i => el p i == i)
theorem clsK_succ_yes {p : List Nat} {k : Nat} (h : el p k = k) : clsK p (k + 1) = clsK p k + 1 := by
  unfold clsK; rw [List.range_succ, List.countP_append]; simp [h]
theorem clsK_succ_no {p : List Nat} {k : Nat} (h : el p k ≠ k) : clsK p (k + 1) = clsK p k := by
  unfold clsK; rw [List.range_succ, List.countP_append]; simp [h]
theorem clsK_le (p : List Nat) (k : Nat) : clsK p k ≤ k := by
  unfold clsK; have := List.countP_le_length (p := fun i => el p i == i) (l := List.range k); simpa using this

end Go.Proofs.YthhcchdjeeigpaaDoor

namespace Go.Proofs.YthhcchdjeeigpaaDoor
open Go.RowKit
set_option linter.unusedVariables false

/-- Behind k rounds. -/
def joinK (A B : Nat) (p : List Nat) (k : Nat) : List Nat := (p.take k).map (join A B) ++ p.drop k
theorem joinK_length (A B : Nat) (p : List Nat) (k : Nat) : (joinK A B p k).length = p.length := by
  unfold joinK; simp; omega
theorem joinK_zero (A B : Nat) (p : List Nat) : joinK A B p 0 = p := by simp [joinK]
theorem joinK_all (A B : Nat) (p : List Nat) {n : Nat} (h : p.length = n) : joinK A B p n = p.map (join A B) := by subst h; simp [joinK]
theorem joinK_el (A B : Nat) (p : List Nat) {k : Nat} (h : k < p.length) : el (joinK A B p k) k = el p k := by
  unfold joinK el
  rw [List.getD_eq_getElem?_getD, List.getElem?_append_right (by simp; omega)]
  simp [List.getD, Nat.min_eq_left (Nat.le_of_lt h)]
theorem joinK_succ (A B : Nat) (p : List Nat) {k : Nat} (h : k < p.length) : joinK A B p (k + 1) = (joinK A B p k).set k (join A B (el p k)) := by
  refine ext_el (by simp [joinK_length]) fun i hi => ?_
  rw [joinK_length] at hi
  have hl := joinK_length A B p k
  unfold el joinK at *
  by_cases e : k = i
  · subst e
    rw [List.getD_eq_getElem?_getD, List.getElem?_append_left (by simp; omega)]
    rw [List.getD_eq_getElem?_getD, List.getElem?_set_self (by simp; omega)]
    simp [List.getD, h]
  · rw [List.getD_eq_getElem?_getD (l := List.set _ _ _), List.getElem?_set_ne e, ← List.getD_eq_getElem?_getD]
    by_cases h2 : i < k
    · rw [List.getD_eq_getElem?_getD, List.getElem?_append_left (by simp; omega), List.getD_eq_getElem?_getD, List.getElem?_append_left (by simp; omega)]
      simp [h2, show i < k + 1 by omega]
    · rw [List.getD_eq_getElem?_getD, List.getElem?_append_right (by simp; omega), List.getD_eq_getElem?_getD, List.getElem?_append_right (by simp; omega)]
      have e1 : min (k + 1) p.length = k + 1 := by omega
      have e2 : min k p.length = k := by omega
      simp [e1, e2]
      congr 2
      omega
theorem joinK_keep (A B : Nat) (p : List Nat) {k : Nat} (h : k < p.length) (he : el p k ≠ max A B) : joinK A B p (k + 1) = joinK A B p k := by
  rw [joinK_succ A B p h]
  have : join A B (el p k) = el (joinK A B p k) k := by rw [joinK_el A B p h]; unfold join; rw [if_neg he]
  rw [this]
  refine ext_el (by simp) fun i hi => ?_
  by_cases e : k = i
  · subst e; rw [el_set_self (by rw [joinK_length]; exact h)]
  · rw [el_set_other e]

theorem drew_owns {w : World} {base e size : Nat} {v : Value} {n : Nat} {xs : List Value} (h : w.ownsRow base e size v n xs) (k : Nat) : (w.drewN k).ownsRow base e size v n xs := h


end Go.Proofs.YthhcchdjeeigpaaDoor

namespace Go.Proofs.YthhcchdjeeigpaaDoor
open Go.RowKit
set_option linter.unusedVariables false

set_option maxRecDepth 100000 in
set_option maxHeartbeats 1000000 in
theorem runite_any (a : Option Addr) (la ca : Nat) (p : List Nat) (x y : Int) (w : World) {lo hi : Nat} (hp : RowN lo hi w a la p) (hhi : hi ≤ w.heap.size) (hm : la ≤ 1000000) (hnil : a = none → ca = 0) :
    Calls Tryd.prog 25 #[.slice a la ca, .int .i64 x, .int .i64 y] w fun e w' => ∃ a' c', e = .returned (.slice a' la c') ∧ RowN w.heap.size w'.heap.size w' a' la (uniL p x y) ∧ (a' = none → c' = 0) ∧ Below w.heap.size w w' := by
  have HP := Lib.hid hp
  have hl := hp.1
  obtain ⟨i0, hi0, hz0, hz1, hz2⟩ := info_parts Tryd.info3
  have HB0 : Hid (Below w.heap.size w (w.alloc (.cells #[] 3))) := (Below.refl _ _).alloc (Nat.le_refl _) _
  have HNIL : Hid (a = none → la = 0 ∧ ca = 0) := fun h => ⟨RowF.nil_len (h ▸ hp), hnil h⟩
  have HNEW : Hid (∀ ad, a = some ad → ∀ j u, (intsOf p)[j]? = some u → (w.alloc (.cells #[] 3)).cell? (ad.add j) = some u) := fun ad h => RowF.news (h ▸ hp.alloc hhi _)
  clear hp hnil
  by_cases hx : 0 ≤ x ∧ x < la
  · by_cases hy : 0 ≤ y ∧ y < la
    · obtain ⟨i, rfl⟩ : ∃ i : Nat, x = i := ⟨x.toNat, by omega⟩
      obtain ⟨j, rfl⟩ : ∃ j : Nat, y = j := ⟨y.toNat, by omega⟩
      have hi' : i < la := by omega
      have hj' : j < la := by omega
      obtain ⟨b, off, rfl, _, hbb, hc⟩ := HP.out.at_ hi'
      have ci := hc i hi'
      have cj := hc j hj'
      have e : uniL p i j = p.map (join (el p i) (el p j)) := by
        unfold uniL; rw [if_pos (by simp [inB]; omega)]; simp
      obtain ⟨u, hu⟩ : ∃ u, el p i = u := ⟨_, rfl⟩
      obtain ⟨v, hv⟩ : ∃ v, el p j = v := ⟨_, rfl⟩
      rw [e]
      rw [hu] at ci ⊢
      rw [hv] at cj ⊢
      have hx0 : (0 : Int) ≤ i := by omega
      have hy0 : (0 : Int) ≤ j := by omega
      have hx1 : (i : Int) < la := by omega
      have hy1 : (j : Int) < la := by omega
      have HL := Lib.hid hl
      obtain ⟨A, HA⟩ : ∃ A, Hid (A = min u v) := ⟨_, rfl⟩
      obtain ⟨B, HB⟩ : ∃ B, Hid (B = max u v) := ⟨_, rfl⟩
      have EA : (if v < u then (v : Int) else (u : Int)) = (A : Int) := by have := HA.out; split <;> omega
      have EB : (if u < v then (v : Int) else (u : Int)) = (B : Int) := by have := HB.out; split <;> omega
      clear hc hl e hu hv hx hy
      go_enter Tryd.func25, Tryd.ntmps25
      go_wp2_with (at_builtin; refine wpList_append_any rfl _ _ 22 rfl w.heap.size 3 i0 (.int .i64 0) 1 8 Tryd.underlying22 hi0 hz0 hz1 hz2 rfl (by decide) _ 0 [] rfl ?c0 _ la ca (intsOf p) rfl ?cn ?c1 ?c2 ?c3 ?c4 ?c5 ?c6 ?_)
      case c0 => exact World.ownsRow_made w #[] 0 (Nat.le_refl _) (by decide) rfl
      case cn => exact HNIL.out
      case c1 => simp [intsOf, HL.out]
      case c2 => exact HNEW.out
      case c3 => intro u hu; simp [intsOf] at hu; obtain ⟨n, _, rfl⟩ := hu; rfl
      case c4 => unfold maxLen; omega
      case c5 => omega
      case c6 => simp
      intro v7 w1 hown hgr
      have hb1 : Below w.heap.size w w1 := HB0.out.grown hgr (by simp) (by rintro k hk; cases hk; exact Nat.le_refl _)
      clear hgr
      obtain ⟨a7, c7, e7, _⟩ := RowF.owned hown HL.out
      subst e7
      have c1 := (hb1.cell (p := ⟨b, off + i, none⟩) (by show b < _; omega)).trans ci
      have c2 := (hb1.cell (p := ⟨b, off + j, none⟩) (by show b < _; omega)).trans cj
      have hs1 := hb1.size
      have hbb1 : b < w1.heap.size := by omega
      clear ci cj
      go_wp2_with fail
      refine (rthere_yes _ _ _ hx0 hx1).mono ?_
      rintro e w' ⟨rfl, rfl⟩
      go_wp2_with fail
      refine (rthere_yes _ _ _ hy0 hy1).mono ?_
      rintro e w' ⟨rfl, rfl⟩
      go_wp2_with fail
      go_quiet (fail)
      clear EA EB
      go_wp2_with fail
      go_loopw [10] (fun i wr => ∃ k : Nat, k ≤ la ∧ i = .int .i64 k ∧ wr.ownsRow w.heap.size 3 1 (.slice a7 la c7) la (intsOf (joinK u v p k)) ∧ Below w.heap.size w wr) (fun i _ => la - (intOf i).toNat)
      case atStart => exact ⟨0, Nat.zero_le _, rfl, by rw [joinK_zero]; exact drew_owns hown _, below_drewN hb1 _⟩
      case round =>
        clear hown hb1 hs1 c1 c2 hbb1
        obtain ⟨k, hk, rfl, hown, hb⟩ := hrel
        by_cases hlt : k < la
        · obtain ⟨g, c', e7, hg, hg2⟩ := hown.form (by omega)
          cases e7
          have hkl : k < (joinK u v p k).length := by rw [joinK_length, HL.out]; exact hlt
          have ck : wr.cell? ⟨g, k, none⟩ = some (.int .i64 (el p k : Nat)) := by
            rw [hown.cellAt k (by omega), intsOf_get hkl, joinK_el _ _ _ (by rw [HL.out]; exact hlt)]
          have fk := hown.frozenAt k
          have hst := (hown.stored k (.int .i64 (A : Int))).1
          rw [intsOf_set] at hst
          by_cases he : el p k = B
          · have HN := Lib.hid (joinK_succ u v p (k := k) (by rw [HL.out]; exact hlt))
            have hj : join u v (el p k) = A := by unfold join; rw [if_pos (by rw [he]; exact HB.out)]; exact HA.out.symm
            rw [hj] at HN
            rw [he] at ck
            have HST := Lib.hid hst
            have HOWN := Lib.hid hown
            have hs : (((B : Nat) : Int) == ((B : Nat) : Int)) = true := by simp
            clear hst hown hj he hkl
            go_wp2_with fail
            go_roundw
            case rel => exact ⟨k + 1, by omega, by go_num, by rw [HN.out]; exact HST.out, hb.setCell hg _⟩
            case measure => simp [intOf]; omega
          · have HN := Lib.hid (joinK_keep u v p (k := k) (by rw [HL.out]; exact hlt) (by rw [← HB.out]; exact he))
            have hs : (((el p k : Nat) : Int) == ((B : Nat) : Int)) = false := by simp; omega
            have HOWN := Lib.hid hown
            generalize el p k = z at *
            clear hst hown he hkl
            go_wp2_with fail
            go_roundw
            case rel => exact ⟨k + 1, by omega, by go_num, by rw [HN.out]; exact HOWN.out, hb⟩
            case measure => simp [intOf]; omega
        · obtain rfl : k = la := by omega
          go_wp2_with fail
          go_ret
          rw [joinK_all _ _ _ HL.out] at hown
          obtain ⟨a', c', e7, hr, hnl⟩ := RowF.owned hown (by simp [HL.out])
          cases e7
          exact ⟨_, _, rfl, hr, hnl, hb⟩
    · have e : uniL p x y = p := uniL_out (by simp [inB]; omega)
      obtain ⟨hx0, hx1⟩ := hx
      have HL := Lib.hid hl
      rw [e]
      clear e hl
      go_enter Tryd.func25, Tryd.ntmps25
      go_wp2_with (at_builtin; refine wpList_append_any rfl _ _ 22 rfl w.heap.size 3 i0 (.int .i64 0) 1 8 Tryd.underlying22 hi0 hz0 hz1 hz2 rfl (by decide) _ 0 [] rfl ?c0 _ la ca (intsOf p) rfl ?cn ?c1 ?c2 ?c3 ?c4 ?c5 ?c6 ?_)
      case c0 => exact World.ownsRow_made w #[] 0 (Nat.le_refl _) (by decide) rfl
      case cn => exact HNIL.out
      case c1 => simp [intsOf, HL.out]
      case c2 => exact HNEW.out
      case c3 => intro u hu; simp [intsOf] at hu; obtain ⟨n, _, rfl⟩ := hu; rfl
      case c4 => unfold maxLen; omega
      case c5 => omega
      case c6 => simp
      intro v7 w1 hown hgr
      have hb1 : Below w.heap.size w w1 := HB0.out.grown hgr (by simp) (by rintro k hk; cases hk; exact Nat.le_refl _)
      clear hgr
      go_wp2_with fail
      refine (rthere_yes _ _ _ hx0 hx1).mono ?_
      rintro e w' ⟨rfl, rfl⟩
      go_wp2_with fail
      refine (rthere_no _ _ _ hy).mono ?_
      rintro e w' ⟨rfl, rfl⟩
      go_wp2_with fail
      go_ret
      obtain ⟨a', c', rfl, hr, hnl⟩ := RowF.owned hown HL.out
      exact ⟨_, _, rfl, hr, hnl, hb1⟩
  · have e : uniL p x y = p := uniL_out (by simp [inB]; omega)
    have HL := Lib.hid hl
    rw [e]
    clear e hl
    go_enter Tryd.func25, Tryd.ntmps25
    go_wp2_with (at_builtin; refine wpList_append_any rfl _ _ 22 rfl w.heap.size 3 i0 (.int .i64 0) 1 8 Tryd.underlying22 hi0 hz0 hz1 hz2 rfl (by decide) _ 0 [] rfl ?c0 _ la ca (intsOf p) rfl ?cn ?c1 ?c2 ?c3 ?c4 ?c5 ?c6 ?_)
    case c0 => exact World.ownsRow_made w #[] 0 (Nat.le_refl _) (by decide) rfl
    case cn => exact HNIL.out
    case c1 => simp [intsOf, HL.out]
    case c2 => exact HNEW.out
    case c3 => intro u hu; simp [intsOf] at hu; obtain ⟨n, _, rfl⟩ := hu; rfl
    case c4 => unfold maxLen; omega
    case c5 => omega
    case c6 => simp
    intro v7 w1 hown hgr
    have hb1 : Below w.heap.size w w1 := HB0.out.grown hgr (by simp) (by rintro k hk; cases hk; exact Nat.le_refl _)
    clear hgr
    go_wp2_with fail
    refine (rthere_no _ _ _ hx).mono ?_
    rintro e w' ⟨rfl, rfl⟩
    go_wp2_with fail
    go_ret
    obtain ⟨a', c', rfl, hr, hnl⟩ := RowF.owned hown HL.out
    exact ⟨_, _, rfl, hr, hnl, hb1⟩

end Go.Proofs.YthhcchdjeeigpaaDoor
