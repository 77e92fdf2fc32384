/- The walk of the law PickTurns where nobody, or too many, may come. -/
import Derived.Test.YteedkkimcfddfaaDoorLawturns
import Derived.Laws.MakeOwn
namespace Go.Proofs.YteedkkimcfddfaaDoor
open Go.RowKit

def Nope (w : World) (s7 _s8 : Value) (wx : World) : Prop := s7 = .int .i64 (-1) ∧ Below w.heap.size w wx

theorem below_next {B : Nat} {w w' w'' : World} (h : Below B w w') (k : Below w'.heap.size w' w'') (hB : B ≤ w.heap.size) : Below B w w'' := h.trans (k.mono (Nat.le_trans hB h.size))
theorem below_alloc {B : Nat} {w w' : World} (h : Below B w w') (hB : B ≤ w.heap.size) (o : Obj) : Below B w (w'.alloc o) := h.alloc (Nat.le_trans hB h.size) o
theorem below_set3 {B : Nat} {w w' : World} (h : Below B w w') {a b c : Addr} {u v x : Value} (ha : B ≤ a.block) (hb : B ≤ b.block) (hc : B ≤ c.block) : Below B w (((w'.setCell a u).setCell b v).setCell c x) := ((h.setCell ha u).setCell hb v).setCell hc x

theorem on_falses (m : Nat) : on 0 (List.replicate m false) = [] := on_replicate_false m 0

theorem next_falses (a a1 : Option Addr) (m c1 c2 : Nat) (p l : Int) (W : World) (h : ∃ lo hi, RowB lo hi W a m (List.replicate m false) ∧ hi ≤ W.heap.size) (hm : m ≤ 1000) :
    Calls Tryd.prog 8 #[.agg #[.slice a1 0 c1, .int .i64 p, .int .i64 l], .slice a m c2] W fun e w' => ∃ a' c', e = .returned (.tuple #[.int .i64 (-1), .agg #[.slice a' 0 c', .int .i64 p, .int .i64 l]]) ∧ Below W.heap.size W w' := by
  obtain ⟨lo, hi, hr, hh⟩ := h
  refine (Next_none a1 a 0 c1 m c2 [] (List.replicate m false) p l W (⟨rfl, .inl rfl⟩ : Row 0 0 W a1 0 []) (Nat.zero_le _) (by omega) hr hh hm (on_falses m)).mono ?_
  rintro e w' ⟨a', c', h1, _, h2⟩
  exact ⟨a', c', h1, h2⟩

theorem row_made (W : World) (m : Nat) (mk : Array Value) (hmk : mk = (List.replicate m (Value.bool false)).toArray) : RowB W.heap.size (W.heap.size + 1) (W.alloc (.cells mk 4)) (some ⟨W.heap.size, 0, none⟩) m (List.replicate m false) := by
  subst hmk
  refine ⟨by simp, ?_⟩
  by_cases h0 : m = 0
  · exact .inl h0
  · refine .inr ⟨W.heap.size, 0, rfl, Nat.le_refl _, by omega, fun i hi => ?_⟩
    have b := Box.new W 4 (List.replicate m (Value.bool false))
    rw [Nat.zero_add, b.cell i]
    simp [hi, List.getD]

theorem row_made2 (W : World) (g m : Nat) (mk : Array Value) (hmk : mk = (List.replicate m (Value.bool false)).toArray) (hg : g = W.heap.size) : RowB W.heap.size (W.heap.size + 1) (W.alloc (.cells mk 4)) (some ⟨g, 0, none⟩) m (List.replicate m false) := by
  subst hg; exact row_made W m mk hmk

theorem row_ms {W wz : World} {m : Nat} {mk : Array Value} (hmk : mk = (List.replicate m (Value.bool false)).toArray) (hbz : Below (W.alloc (.cells mk 4)).drew.heap.size (W.alloc (.cells mk 4)).drew wz) :
    ∃ lo hi, RowB lo hi wz (some ⟨W.heap.size, 0, none⟩) m (List.replicate m false) ∧ hi ≤ wz.heap.size := by
  have e : (W.alloc (.cells mk 4)).drew.heap.size = W.heap.size + 1 := World.size_alloc _ _
  have h1 := hbz.size
  exact ⟨_, _, (row_made W m mk hmk).drew.below hbz (by omega), by omega⟩
theorem row_msb {W wz : World} {m : Nat} {mk : Array Value} {o : Obj} (hmk : mk = (List.replicate m (Value.bool false)).toArray) (hbz : Below (W.alloc (.cells mk 4)).drew.heap.size (W.alloc (.cells mk 4)).drew wz) :
    ∃ lo hi, RowB lo hi (wz.alloc o) (some ⟨W.heap.size, 0, none⟩) m (List.replicate m false) ∧ hi ≤ (wz.alloc o).heap.size := by
  obtain ⟨lo, hi, h1, h2⟩ := row_ms hmk hbz
  exact ⟨lo, hi, h1.alloc h2 o, by simp; omega⟩
theorem row_mbs {W wz : World} {m : Nat} {mk : Array Value} {o : Obj} (hmk : mk = (List.replicate m (Value.bool false)).toArray) (hbz : Below ((W.alloc (.cells mk 4)).alloc o).drew.heap.size ((W.alloc (.cells mk 4)).alloc o).drew wz) :
    ∃ lo hi, RowB lo hi wz (some ⟨W.heap.size, 0, none⟩) m (List.replicate m false) ∧ hi ≤ wz.heap.size := by
  have e : ((W.alloc (.cells mk 4)).alloc o).drew.heap.size = W.heap.size + 1 + 1 := (World.size_alloc _ _).trans (congrArg (· + 1) (World.size_alloc _ _))
  have h1 := hbz.size
  exact ⟨_, _, ((row_made W m mk hmk).alloc (by simp) o).drew.below hbz (by omega), by omega⟩
theorem row_bms {W wz : World} {m : Nat} {mk : Array Value} {o : Obj} (hmk : mk = (List.replicate m (Value.bool false)).toArray) (hbz : Below ((W.alloc o).alloc (.cells mk 4)).drew.heap.size ((W.alloc o).alloc (.cells mk 4)).drew wz) :
    ∃ lo hi, RowB lo hi wz (some ⟨W.heap.size + 1, 0, none⟩) m (List.replicate m false) ∧ hi ≤ wz.heap.size := by
  have := row_ms hmk hbz
  rwa [World.size_alloc] at this

set_option maxRecDepth 100000 in
set_option maxHeartbeats 4000000 in
theorem turns_none (a : Option Addr) (la ca last : Nat) (en : List Bool) (w : World) (hy : RowB 0 w.heap.size w a la en) (hT : Tab w) (hmax : la ≤ 9223372036854775807) (hlast : last ≤ 255) (hno : 70 < la ∨ on 0 en = []) :
    Calls Tryd.prog 5 #[.slice a la ca, .int .u8 last] w fun e w' => e = .returned (.bool true) ∧ Below w.heap.size w w' := by
  have HT := Lib.hid hT
  have HY := Lib.hid hy
  have HN := Lib.hid hno
  obtain ⟨i0, hi0, hz0, hz1, hz2⟩ := info_parts Tryd.infob
  have hmr := fun W (m : Nat) (h : m ≤ 70) => run_makeSlice (P := Tryd.prog) (w := W) 25 4 i0 (.bool false) Tryd.underlying25 hi0 hz0 .i64 .i64 (m : Int) (m : Int) (by omega) (Int.le_refl _) (by rw [hz1]; omega) (by rw [hz2]; omega) (by omega)
  have HMR := Lib.hid hmr
  clear hT hy hno hmr
  go_enter Tryd.func5, Tryd.ntmps5
  go_wp2_with fail
  go_loop [5, 6] (fun s i => ∃ k : Nat, k ≤ la ∧ i = .int .i64 k ∧ s = .int .i64 (on 0 (en.take k)).length) (fun _ i => la - (intOf i).toNat)
  case atStart => exact ⟨0, Nat.zero_le _, rfl, rfl⟩
  case round =>
    obtain ⟨k, hk, rfl, rfl⟩ := hrel
    by_cases hlt : k < la
    · obtain ⟨b', off', rfl, _, hbb, hcc⟩ := HY.out.2.resolve_left (by omega)
      have hck := hcc k hlt
      have hol := on_length_le (en.take k) 0
      have htl : (en.take k).length ≤ k := by simp; omega
      have hts := on_take_succ en k (by rw [HY.out.1]; exact hlt)
      clear hcc
      by_cases ht : en.getD k false = true
      · rw [ht] at hck hts
        simp only [if_true] at hts
        have HTS := Lib.hid hts
        clear hts ht
        go_wp2_with fail
        go_round
        case rel => exact ⟨k + 1, by omega, by go_num, by rw [HTS.out, List.length_append]; go_num⟩
        case measure => simp [intOf]; omega
      · have ht : en.getD k false = false := by simpa using ht
        rw [ht] at hck hts
        simp at hts
        have HTS := Lib.hid hts
        clear hts ht
        go_wp2_with fail
        go_round
        case rel => exact ⟨k + 1, by omega, by go_num, by rw [HTS.out]⟩
        case measure => simp [intOf]; omega
    · obtain rfl : k = la := by omega
      have hte : en.take k = en := List.take_of_length_le (by rw [HY.out.1]; exact Nat.le_refl _)
      rw [hte]
      clear hte
      have hc : 70 < k ∨ (¬ 70 < k ∧ (((on 0 en).length : Int) == 0) = true) := by
        by_cases h : 70 < k
        · exact .inl h
        · refine .inr ⟨h, ?_⟩
          rcases HN.out with h' | h'
          · exact absurd h' h
          · rw [h']; rfl
      have hm : (last : Int) % 70 = ((last % 70 : Nat) : Int) := by omega
      obtain ⟨m, hme⟩ : ∃ m, m = last % 70 := ⟨_, rfl⟩
      rw [← hme] at hm
      have hm70 : m ≤ 70 := by omega
      have hw1 : IntKind.i64.wrap (last : Int) = (last : Int) := IntWalk.i64_in _ (by omega)
      have hm3 : (last : Int).tmod 70 = (m : Int) := by rw [Int.tmod_eq_emod_of_nonneg (by omega)]; exact hm
      obtain ⟨mk, hmk⟩ : ∃ mk, mk = madeCells (Value.bool false).cells (m * i0.size) := ⟨_, rfl⟩
      have hmk2 : mk = (List.replicate m (Value.bool false)).toArray := by
        rw [hmk, hz1, Nat.mul_one]
        apply Array.toList_inj.1
        rw [show (Value.bool false).cells = #[Value.bool false] from rfl]
        simp [toList_madeCells_one]
      have hmake : ∀ W, Sem.run Tryd.prog (Instr.makeSlice 25 (.int .i64 (m : Int)) (.int .i64 (m : Int))) W = .ok (.slice (some ⟨W.heap.size, 0, none⟩) m m) (W.alloc (.cells mk 4)) := by
        intro W
        have := HMR.out W m hm70
        rw [Int.toNat_natCast, ← hmk] at this
        exact this
      have HM2 := Lib.hid hmk2
      clear hme hmk hmk2
      have HSt : Hid (∀ W, Calls Tryd.prog 10 #[.slice none 0 0] W fun e w' => ∃ a' c', e = .returned (.agg #[.slice a' 0 c', .int .i64 0, .int .i64 (-1)]) ∧ Below W.heap.size W w') := fun W =>
        (Start_any none 0 0 [] W (⟨rfl, .inl rfl⟩ : Row 0 0 W none 0 []) (Nat.zero_le _) (by omega)).mono (by rintro e w' ⟨a', c', h1, _, h2⟩; exact ⟨a', c', h1, h2⟩)
      have HNx : Hid (∀ (W : World) (a a1 : Option Addr) (c1 : Nat), (∃ lo hi, RowB lo hi W a m (List.replicate m false) ∧ hi ≤ W.heap.size) → Calls Tryd.prog 8 #[.agg #[.slice a1 0 c1, .int .i64 0, .int .i64 (-1)], .slice a m m] W fun e w' => ∃ a' c', e = .returned (.tuple #[.int .i64 (-1), .agg #[.slice a' 0 c', .int .i64 0, .int .i64 (-1)]]) ∧ Below W.heap.size W w') := fun W a a1 c1 h =>
        next_falses a a1 m c1 m 0 (-1) W h (by omega)
      rcases hc with hc | ⟨hc1, hc2⟩
      · go_upto_region 8 with fail
        go_cut [7, 8] from 15 to 42 (fun s7 s8 wx => Nope w s7 s8 wx)
        case first =>
          go_region_held3 (fun w' => Below w.heap.size w w' ∧ True)
            (first
              | exact ⟨(Below.refl _ _).drew, trivial⟩
              | exact ⟨kN, trivial⟩
              | exact ⟨kS, trivial⟩
              | exact ⟨below_alloc (And.left (by assumption)) (Nat.le_refl _) _, trivial⟩
              | exact ⟨below_alloc kN (Nat.le_refl _) _, trivial⟩
              | exact ⟨below_set3 (And.left (by assumption)) (by first | exact Nat.le_refl _ | (simp; done) | (have := hbz.size; simp at this ⊢; omega)) (by first | exact Nat.le_refl _ | (simp; done) | (have := hbz.size; simp at this ⊢; omega)) (by first | exact Nat.le_refl _ | (simp; done) | (have := hbz.size; simp at this ⊢; omega)), trivial⟩)
            (first
              | (go_at_call 10; (with_reducible refine (HSt.out _).mono ?_); rintro e wz ⟨a4, c4, rfl, hbz⟩; have kS : Below w.heap.size w wz := below_next (And.left (by assumption)) hbz (Nat.le_refl _))
              | (go_at_call 8; (with_reducible refine (HNx.out _ _ _ _ ?_).mono ?_); first
                  | exact ⟨_, _, row_made2 _ _ _ _ HM2.out (by simp), by simp⟩
                  | exact ⟨_, _, (row_made2 _ _ _ _ HM2.out (by simp)).alloc (by simp) _, by simp⟩
                  | exact row_ms HM2.out hbz
                  | exact row_msb HM2.out hbz
                  | exact row_mbs HM2.out hbz
                  | exact row_bms HM2.out hbz
                 rintro e wy ⟨a5, c5, rfl, hby⟩; have kN : Below w.heap.size w wy := below_next (And.left (by assumption)) hby (Nat.le_refl _); (try (have bx := Box.below (Box.new _ 24 [.slice none 0 0, .int .i64 0, .int .i64 0]) hby; (try rw [World.size_alloc] at bx); obtain ⟨_, _, _, _, _, _⟩ := bx.three)); (try (have bx := Box.below ((Box.new _ 24 [.slice none 0 0, .int .i64 0, .int .i64 0]).alloc _) hby; (try rw [World.size_alloc] at bx); obtain ⟨_, _, _, _, _, _⟩ := bx.three)); (try (have bx := Box.below (Box.below (Box.new _ 24 [.slice none 0 0, .int .i64 0, .int .i64 0]).drew hbz) hby; (try rw [World.size_alloc] at bx); obtain ⟨_, _, _, _, _, _⟩ := bx.three)); (try (have bx := Box.below ((Box.below (Box.new _ 24 [.slice none 0 0, .int .i64 0, .int .i64 0]).drew hbz).alloc _) hby; (try rw [World.size_alloc] at bx); obtain ⟨_, _, _, _, _, _⟩ := bx.three)); (try (have bx := Box.below (Box.below ((Box.new _ 24 [.slice none 0 0, .int .i64 0, .int .i64 0]).alloc _).drew hbz) hby; (try rw [World.size_alloc] at bx); obtain ⟨_, _, _, _, _, _⟩ := bx.three)))
              | fail)
          all_goals (go_wp2_with fail; go_meet)
          all_goals exact ⟨rfl, And.left (by assumption)⟩
        case rest =>
          obtain ⟨rfl, hbc⟩ := hcut
          go_wp2_with fail
          refine (awake_any _ (HT.out.below hbc HT.out.lt)).mono ?_
          rintro e w8 ⟨rfl, hb8⟩
          go_wp2_with fail
          go_ret
          exact ⟨rfl, hbc.trans (hb8.mono hbc.size)⟩
      · go_upto_region 8 with fail
        go_cut [7, 8] from 15 to 42 (fun s7 s8 wx => Nope w s7 s8 wx)
        case first =>
          go_region_held3 (fun w' => Below w.heap.size w w' ∧ True)
            (first
              | exact ⟨(Below.refl _ _).drew, trivial⟩
              | exact ⟨kN, trivial⟩
              | exact ⟨kS, trivial⟩
              | exact ⟨below_alloc (And.left (by assumption)) (Nat.le_refl _) _, trivial⟩
              | exact ⟨below_alloc kN (Nat.le_refl _) _, trivial⟩
              | exact ⟨below_set3 (And.left (by assumption)) (by first | exact Nat.le_refl _ | (simp; done) | (have := hbz.size; simp at this ⊢; omega)) (by first | exact Nat.le_refl _ | (simp; done) | (have := hbz.size; simp at this ⊢; omega)) (by first | exact Nat.le_refl _ | (simp; done) | (have := hbz.size; simp at this ⊢; omega)), trivial⟩)
            (first
              | (go_at_call 10; (with_reducible refine (HSt.out _).mono ?_); rintro e wz ⟨a4, c4, rfl, hbz⟩; have kS : Below w.heap.size w wz := below_next (And.left (by assumption)) hbz (Nat.le_refl _))
              | (go_at_call 8; (with_reducible refine (HNx.out _ _ _ _ ?_).mono ?_); first
                  | exact ⟨_, _, row_made2 _ _ _ _ HM2.out (by simp), by simp⟩
                  | exact ⟨_, _, (row_made2 _ _ _ _ HM2.out (by simp)).alloc (by simp) _, by simp⟩
                  | exact row_ms HM2.out hbz
                  | exact row_msb HM2.out hbz
                  | exact row_mbs HM2.out hbz
                  | exact row_bms HM2.out hbz
                 rintro e wy ⟨a5, c5, rfl, hby⟩; have kN : Below w.heap.size w wy := below_next (And.left (by assumption)) hby (Nat.le_refl _); (try (have bx := Box.below (Box.new _ 24 [.slice none 0 0, .int .i64 0, .int .i64 0]) hby; (try rw [World.size_alloc] at bx); obtain ⟨_, _, _, _, _, _⟩ := bx.three)); (try (have bx := Box.below ((Box.new _ 24 [.slice none 0 0, .int .i64 0, .int .i64 0]).alloc _) hby; (try rw [World.size_alloc] at bx); obtain ⟨_, _, _, _, _, _⟩ := bx.three)); (try (have bx := Box.below (Box.below (Box.new _ 24 [.slice none 0 0, .int .i64 0, .int .i64 0]).drew hbz) hby; (try rw [World.size_alloc] at bx); obtain ⟨_, _, _, _, _, _⟩ := bx.three)); (try (have bx := Box.below ((Box.below (Box.new _ 24 [.slice none 0 0, .int .i64 0, .int .i64 0]).drew hbz).alloc _) hby; (try rw [World.size_alloc] at bx); obtain ⟨_, _, _, _, _, _⟩ := bx.three)); (try (have bx := Box.below (Box.below ((Box.new _ 24 [.slice none 0 0, .int .i64 0, .int .i64 0]).alloc _).drew hbz) hby; (try rw [World.size_alloc] at bx); obtain ⟨_, _, _, _, _, _⟩ := bx.three)))
              | fail)
          all_goals (go_wp2_with fail; go_meet)
          all_goals exact ⟨rfl, And.left (by assumption)⟩
        case rest =>
          obtain ⟨rfl, hbc⟩ := hcut
          go_wp2_with fail
          refine (awake_any _ (HT.out.below hbc HT.out.lt)).mono ?_
          rintro e w8 ⟨rfl, hb8⟩
          go_wp2_with fail
          go_ret
          exact ⟨rfl, hbc.trans (hb8.mono hbc.size)⟩

theorem turns_any (a : Option Addr) (la ca last : Nat) (en : List Bool) (w : World) (hy : RowB 0 w.heap.size w a la en) (hT : Tab w) (hmax : la ≤ 9223372036854775807) (hlast : last ≤ 255) :
    Calls Tryd.prog 5 #[.slice a la ca, .int .u8 last] w fun e w' => e = .returned (.bool true) ∧ Below w.heap.size w w' := by
  by_cases h : 70 < la ∨ on 0 en = []
  · exact turns_none a la ca last en w hy hT hmax hlast h
  · exact turns_main a la ca last en w hy hT (by omega) hlast (List.length_pos_iff.2 (fun hh => h (.inr hh)))

end Go.Proofs.YteedkkimcfddfaaDoor
