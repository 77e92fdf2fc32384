/- Contract of package pick's Next. -/
import Derived.Test.YthhcchdjeeigpaaDoorBehind
import Derived.Test.YthhcchdjeeigpaaDoorSetof
namespace Go.Proofs.YthhcchdjeeigpaaDoor
open Go.RowKit

/-- Who is next, and what the picks are behind it. -/
def nextI (xs : List Int) (p l : Int) (en : List Bool) : Int :=
  if on 0 en = [] then -1 else if 0 ≤ p ∧ p < xs.length then ((on 0 en).getD (xs.getD p.toNat 0 % (on 0 en).length).toNat 0 : Nat) else behindI en l
def nextAt (xs : List Int) (p : Int) (en : List Bool) : Int := if on 0 en = [] then p else if 0 ≤ p ∧ p < xs.length then p + 1 else p
def nextLast (xs : List Int) (p l : Int) (en : List Bool) : Int := if on 0 en = [] then l else nextI xs p l en

theorem nth_int (a : Option Addr) (n c : Nat) (en : List Bool) (K : Int) (w : World) (h : Holds w a n en) (hen : en.length ≤ 1000) (hT : Tab w) (h0 : 0 ≤ K) (hk : K < (on 0 en).length) :
    Calls Tryd.prog 76 #[.slice a n c, .int .i64 K] w fun e w' => e = .returned (.int .i64 ((on 0 en).getD K.toNat 0 : Nat)) ∧ w = w' := by
  obtain ⟨k, rfl⟩ : ∃ k : Nat, K = k := ⟨K.toNat, by omega⟩
  exact nth_any a n c en k w h hen hT (by omega)

set_option maxRecDepth 100000 in
set_option maxHeartbeats 1000000 in
theorem Next_none (a b : Option Addr) (la ca lb cb : Nat) (xs : List Int) (en : List Bool) (p l : Int) (w : World) {lo hi lo2 hi2 : Nat} (hx : Row lo hi w a la xs) (hhi : hi ≤ w.heap.size) (hm : la ≤ 1000000)
    (hy : RowB lo2 hi2 w b lb en) (hhi2 : hi2 ≤ w.heap.size) (hm2 : lb ≤ 1000) (hon : on 0 en = []) :
    Calls Tryd.prog 57 #[.agg #[.slice a la ca, .int .i64 p, .int .i64 l], .slice b lb cb] w fun e w' => ∃ a' c', e = .returned (.tuple #[.int .i64 (-1), .agg #[.slice a' la c', .int .i64 p, .int .i64 l]]) ∧ Row w.heap.size w'.heap.size w' a' la xs ∧ Below w.heap.size w w' := by
  have hg0 : ∀ o o', Below w.heap.size w ((w.alloc o).alloc o') := fun o o' => by go_grown
  have b1 := (Box.new w 94 [.slice a la ca, .int .i64 p, .int .i64 l]).alloc (.cells #[.slice none 0 0, .int .i64 0, .int .i64 0] 94)
  have b2 := Box.new (w.alloc (.cells #[.slice a la ca, .int .i64 p, .int .i64 l] 94)) 94 [.slice none 0 0, .int .i64 0, .int .i64 0]
  rw [World.size_alloc] at b2
  have hlen : en.length = lb := hy.1
  have hcnt : (((on 0 en).length : Int) == 0) = true := by rw [hon]; rfl
  have HL := Lib.hid hlen
  clear hlen hon
  go_enter Tryd.func57, Tryd.ntmps57
  go_wp2_with fail
  refine (clone_any _ _ _ xs _ (hx.below (hg0 _ _) hhi) (by simp; omega) hm).mono ?_
  rintro e w1 ⟨a', c', rfl, hr, hb⟩
  have s1 := hb.size
  rw [World.size_alloc, World.size_alloc] at s1
  have B1 := (b1.below hb).set 0 (.slice a' la c')
  have B2 := (b2.below hb).setOther (a := ⟨w.heap.size, 0, none⟩) (by simp) (.slice a' la c')
  have hr1 := (hr.mono (by simp) (Nat.le_refl _) : Row (w.heap.size + 2) w1.heap.size w1 a' la xs).set (p := ⟨w.heap.size, 0, none⟩) (.inl (by simp)) (.slice a' la c')
  have hb1 := ((hg0 (.cells #[.slice a la ca, .int .i64 p, .int .i64 l] 94) (.cells #[.slice none 0 0, .int .i64 0, .int .i64 0] 94)).trans (hb.mono (by simp; omega))).setCell (p := ⟨w.heap.size, 0, none⟩) (by simp) (.slice a' la c')
  have s2 : (w1.setCell ⟨w.heap.size, 0, none⟩ (.slice a' la c')).heap.size = w1.heap.size := by simp
  obtain ⟨_, _, _, _, _, _⟩ := ((b1.below hb)).three
  go_wp2_with fail
  generalize hw2 : w1.setCell ⟨w.heap.size, 0, none⟩ (.slice a' la c') = w2 at *
  refine (setof_any _ _ _ en _ (hy.below hb1 hhi2) (by omega) hm2).mono ?_
  rintro e w3 ⟨a3, n, c3, rfl, hset, hb3⟩
  have s3 := hb3.size
  have hr3 := hr1.below hb3 (by omega)
  have B13 := B1.below hb3
  have B23 := B2.below hb3
  have hb4 := hb1.trans (hb3.mono (by omega))
  obtain ⟨_, _, _, _, _, _⟩ := B13.three
  obtain ⟨_, _, _, _, _, _⟩ := B23.three
  clear hw2
  go_wp2_with fail
  refine (count_any _ _ _ en _ ⟨_, _, hset⟩ (by have := HL.out; omega)).mono ?_
  rintro e w4 ⟨rfl, rfl⟩
  go_wp2_with fail
  go_region
  all_goals go_wp2
  all_goals (refine bodyPost_ret (v := .tuple #[.int .i64 (-1), .agg #[.slice a' la c', .int .i64 p, .int .i64 l]]) (by simp only [results, Tryd.results57]; go_simp) rfl ⟨_, _, rfl, ?_, ?_⟩)
  · exact ((((hr3.set (.inl (by simp)) _).set (.inl (by simp)) _).set (.inl (by simp)) _).drew).mono (by omega) (by simp; omega)
  · exact (((hb4.setCell (by simp) _).setCell (by simp) _).setCell (by simp) _).drew

set_option maxRecDepth 100000 in
set_option maxHeartbeats 1000000 in
set_option maxRecDepth 100000 in
set_option maxHeartbeats 1000000 in
theorem Next_lo (a b : Option Addr) (la ca lb cb : Nat) (xs : List Int) (en : List Bool) (p l : Int) (w : World) {lo hi lo2 hi2 : Nat} (hx : Row lo hi w a la xs) (hhi : hi ≤ w.heap.size) (hm : la ≤ 1000000)
    (hy : RowB lo2 hi2 w b lb en) (hhi2 : hi2 ≤ w.heap.size) (hm2 : lb ≤ 1000) (hT : Tab w) (hon : on 0 en ≠ []) (hp : p < 0) :
    Calls Tryd.prog 57 #[.agg #[.slice a la ca, .int .i64 p, .int .i64 l], .slice b lb cb] w fun e w' => ∃ a' c', e = .returned (.tuple #[.int .i64 (behindI en l), .agg #[.slice a' la c', .int .i64 p, .int .i64 (behindI en l)]]) ∧ Row w.heap.size w'.heap.size w' a' la xs ∧ Below w.heap.size w w' := by
  have hg0 : ∀ o o', Below w.heap.size w ((w.alloc o).alloc o') := fun o o' => by go_grown
  have b1 := (Box.new w 94 [.slice a la ca, .int .i64 p, .int .i64 l]).alloc (.cells #[.slice none 0 0, .int .i64 0, .int .i64 0] 94)
  have b2 := Box.new (w.alloc (.cells #[.slice a la ca, .int .i64 p, .int .i64 l] 94)) 94 [.slice none 0 0, .int .i64 0, .int .i64 0]
  rw [World.size_alloc] at b2
  have hlen : en.length = lb := hy.1
  have hpos : 1 ≤ (on 0 en).length := by cases h : on 0 en with
    | nil => exact absurd h hon
    | cons _ _ => simp
  have hle := on_length_le en 0
  have hcnt : (((on 0 en).length : Int) == 0) = false := by simp; omega
  have HL := Lib.hid hlen
  have HON := Lib.hid hon
  have HT := Lib.hid hT
  clear hlen hon hT hle
  go_enter Tryd.func57, Tryd.ntmps57
  go_wp2_with fail
  refine (clone_any _ _ _ xs _ (hx.below (hg0 _ _) hhi) (by simp; omega) hm).mono ?_
  rintro e w1 ⟨a', c', rfl, hr, hb⟩
  have s1 := hb.size
  rw [World.size_alloc, World.size_alloc] at s1
  have B1 := (b1.below hb).set 0 (.slice a' la c')
  have B2 := (b2.below hb).setOther (a := ⟨w.heap.size, 0, none⟩) (by simp) (.slice a' la c')
  have hr1 := (hr.mono (by simp) (Nat.le_refl _) : Row (w.heap.size + 2) w1.heap.size w1 a' la xs).set (p := ⟨w.heap.size, 0, none⟩) (.inl (by simp)) (.slice a' la c')
  have hb1 := ((hg0 (.cells #[.slice a la ca, .int .i64 p, .int .i64 l] 94) (.cells #[.slice none 0 0, .int .i64 0, .int .i64 0] 94)).trans (hb.mono (by simp; omega))).setCell (p := ⟨w.heap.size, 0, none⟩) (by simp) (.slice a' la c')
  have s2 : (w1.setCell ⟨w.heap.size, 0, none⟩ (.slice a' la c')).heap.size = w1.heap.size := by simp
  obtain ⟨_, _, _, _, _, _⟩ := ((b1.below hb)).three
  go_wp2_with fail
  generalize hw2 : w1.setCell ⟨w.heap.size, 0, none⟩ (.slice a' la c') = w2 at *
  refine (setof_any _ _ _ en _ (hy.below hb1 hhi2) (by omega) hm2).mono ?_
  rintro e w3 ⟨a3, n, c3, rfl, hset, hb3⟩
  have s3 := hb3.size
  have hr3 := hr1.below hb3 (by omega)
  have B13 := B1.below hb3
  have B23 := B2.below hb3
  have hb4 := hb1.trans (hb3.mono (by omega))
  obtain ⟨_, _, _, _, _, _⟩ := B13.three
  obtain ⟨_, _, _, _, _, _⟩ := B23.three
  clear hw2
  go_wp2_with fail
  refine (count_any _ _ _ en _ ⟨_, _, hset⟩ (by have := HL.out; omega)).mono ?_
  rintro e w4 ⟨rfl, rfl⟩
  go_wp2_with fail
  go_wp2_with fail
  refine (behind_any _ _ _ en _ _ ⟨_, _, hset⟩ (by have := HL.out; omega) (HT.out.below hb4 HT.out.lt) HON.out).mono ?_
  rintro e w4 ⟨rfl, rfl⟩
  go_wp2_with fail
  go_region
  all_goals go_wp2
  all_goals (refine bodyPost_ret (v := .tuple #[.int .i64 (behindI en l), .agg #[.slice a' la c', .int .i64 p, .int .i64 (behindI en l)]]) (by simp only [results, Tryd.results57]; go_simp) rfl ⟨_, _, rfl, ?_, ?_⟩)
  · exact (((((hr3.set (.inl (by simp)) _).set (.inl (by simp)) _).set (.inl (by simp)) _).set (.inl (by simp)) _).drew).mono (by omega) (by simp; omega)
  · exact ((((hb4.setCell (by simp) _).setCell (by simp) _).setCell (by simp) _).setCell (by simp) _).drew

set_option maxRecDepth 100000 in
set_option maxHeartbeats 1000000 in
theorem Next_hi (a b : Option Addr) (la ca lb cb : Nat) (xs : List Int) (en : List Bool) (p l : Int) (w : World) {lo hi lo2 hi2 : Nat} (hx : Row lo hi w a la xs) (hhi : hi ≤ w.heap.size) (hm : la ≤ 1000000)
    (hy : RowB lo2 hi2 w b lb en) (hhi2 : hi2 ≤ w.heap.size) (hm2 : lb ≤ 1000) (hT : Tab w) (hon : on 0 en ≠ []) (hp0 : 0 ≤ p) (hp : (la : Int) ≤ p) :
    Calls Tryd.prog 57 #[.agg #[.slice a la ca, .int .i64 p, .int .i64 l], .slice b lb cb] w fun e w' => ∃ a' c', e = .returned (.tuple #[.int .i64 (behindI en l), .agg #[.slice a' la c', .int .i64 p, .int .i64 (behindI en l)]]) ∧ Row w.heap.size w'.heap.size w' a' la xs ∧ Below w.heap.size w w' := by
  have hg0 : ∀ o o', Below w.heap.size w ((w.alloc o).alloc o') := fun o o' => by go_grown
  have b1 := (Box.new w 94 [.slice a la ca, .int .i64 p, .int .i64 l]).alloc (.cells #[.slice none 0 0, .int .i64 0, .int .i64 0] 94)
  have b2 := Box.new (w.alloc (.cells #[.slice a la ca, .int .i64 p, .int .i64 l] 94)) 94 [.slice none 0 0, .int .i64 0, .int .i64 0]
  rw [World.size_alloc] at b2
  have hlen : en.length = lb := hy.1
  have hpos : 1 ≤ (on 0 en).length := by cases h : on 0 en with
    | nil => exact absurd h hon
    | cons _ _ => simp
  have hle := on_length_le en 0
  have hcnt : (((on 0 en).length : Int) == 0) = false := by simp; omega
  have HL := Lib.hid hlen
  have HON := Lib.hid hon
  have HT := Lib.hid hT
  clear hlen hon hT hle
  go_enter Tryd.func57, Tryd.ntmps57
  go_wp2_with fail
  refine (clone_any _ _ _ xs _ (hx.below (hg0 _ _) hhi) (by simp; omega) hm).mono ?_
  rintro e w1 ⟨a', c', rfl, hr, hb⟩
  have s1 := hb.size
  rw [World.size_alloc, World.size_alloc] at s1
  have B1 := (b1.below hb).set 0 (.slice a' la c')
  have B2 := (b2.below hb).setOther (a := ⟨w.heap.size, 0, none⟩) (by simp) (.slice a' la c')
  have hr1 := (hr.mono (by simp) (Nat.le_refl _) : Row (w.heap.size + 2) w1.heap.size w1 a' la xs).set (p := ⟨w.heap.size, 0, none⟩) (.inl (by simp)) (.slice a' la c')
  have hb1 := ((hg0 (.cells #[.slice a la ca, .int .i64 p, .int .i64 l] 94) (.cells #[.slice none 0 0, .int .i64 0, .int .i64 0] 94)).trans (hb.mono (by simp; omega))).setCell (p := ⟨w.heap.size, 0, none⟩) (by simp) (.slice a' la c')
  have s2 : (w1.setCell ⟨w.heap.size, 0, none⟩ (.slice a' la c')).heap.size = w1.heap.size := by simp
  obtain ⟨_, _, _, _, _, _⟩ := ((b1.below hb)).three
  go_wp2_with fail
  generalize hw2 : w1.setCell ⟨w.heap.size, 0, none⟩ (.slice a' la c') = w2 at *
  refine (setof_any _ _ _ en _ (hy.below hb1 hhi2) (by omega) hm2).mono ?_
  rintro e w3 ⟨a3, n, c3, rfl, hset, hb3⟩
  have s3 := hb3.size
  have hr3 := hr1.below hb3 (by omega)
  have B13 := B1.below hb3
  have B23 := B2.below hb3
  have hb4 := hb1.trans (hb3.mono (by omega))
  obtain ⟨_, _, _, _, _, _⟩ := B13.three
  obtain ⟨_, _, _, _, _, _⟩ := B23.three
  clear hw2
  go_wp2_with fail
  refine (count_any _ _ _ en _ ⟨_, _, hset⟩ (by have := HL.out; omega)).mono ?_
  rintro e w4 ⟨rfl, rfl⟩
  go_wp2_with fail
  go_wp2_with fail
  refine (behind_any _ _ _ en _ _ ⟨_, _, hset⟩ (by have := HL.out; omega) (HT.out.below hb4 HT.out.lt) HON.out).mono ?_
  rintro e w4 ⟨rfl, rfl⟩
  go_wp2_with fail
  go_region
  all_goals go_wp2
  all_goals (refine bodyPost_ret (v := .tuple #[.int .i64 (behindI en l), .agg #[.slice a' la c', .int .i64 p, .int .i64 (behindI en l)]]) (by simp only [results, Tryd.results57]; go_simp) rfl ⟨_, _, rfl, ?_, ?_⟩)
  · exact (((((hr3.set (.inl (by simp)) _).set (.inl (by simp)) _).set (.inl (by simp)) _).set (.inl (by simp)) _).drew).mono (by omega) (by simp; omega)
  · exact ((((hb4.setCell (by simp) _).setCell (by simp) _).setCell (by simp) _).setCell (by simp) _).drew

set_option maxRecDepth 100000 in
set_option maxHeartbeats 1000000 in
theorem Next_hit (a b : Option Addr) (la ca lb cb : Nat) (xs : List Int) (en : List Bool) (k : Nat) (l : Int) (w : World) {lo hi lo2 hi2 : Nat} (hx : Row lo hi w a la xs) (hhi : hi ≤ w.heap.size) (hm : la ≤ 1000000)
    (hy : RowB lo2 hi2 w b lb en) (hhi2 : hi2 ≤ w.heap.size) (hm2 : lb ≤ 1000) (hT : Tab w) (hon : on 0 en ≠ []) (hk : k < la) (x : Int) (v : Nat) (hxv : xs.getD k 0 = x) (hv : (on 0 en).getD (x % ((on 0 en).length : Int)).toNat 0 = v) :
    Calls Tryd.prog 57 #[.agg #[.slice a la ca, .int .i64 k, .int .i64 l], .slice b lb cb] w fun e w' => ∃ a' c', e = .returned (.tuple #[.int .i64 (v : Nat), .agg #[.slice a' la c', .int .i64 (k + 1), .int .i64 (v : Nat)]]) ∧ Row w.heap.size w'.heap.size w' a' la xs ∧ Below w.heap.size w w' := by
  have hg0 : ∀ o o', Below w.heap.size w ((w.alloc o).alloc o') := fun o o' => by go_grown
  have b1 := (Box.new w 94 [.slice a la ca, .int .i64 k, .int .i64 l]).alloc (.cells #[.slice none 0 0, .int .i64 0, .int .i64 0] 94)
  have b2 := Box.new (w.alloc (.cells #[.slice a la ca, .int .i64 k, .int .i64 l] 94)) 94 [.slice none 0 0, .int .i64 0, .int .i64 0]
  rw [World.size_alloc] at b2
  have hlen : en.length = lb := hy.1
  have hpos : 1 ≤ (on 0 en).length := by cases h : on 0 en with
    | nil => exact absurd h hon
    | cons _ _ => simp
  have hle := on_length_le en 0
  have hcnt : (((on 0 en).length : Int) == 0) = false := by simp; omega
  have HL := Lib.hid hlen
  have HON := Lib.hid hon
  have HXV := Lib.hid hxv
  have HV := Lib.hid hv
  have HT := Lib.hid hT
  clear hlen hon hT hxv hv
  go_enter Tryd.func57, Tryd.ntmps57
  go_wp2_with fail
  refine (clone_any _ _ _ xs _ (hx.below (hg0 _ _) hhi) (by simp; omega) hm).mono ?_
  rintro e w1 ⟨a', c', rfl, hr, hb⟩
  have s1 := hb.size
  rw [World.size_alloc, World.size_alloc] at s1
  have B1 := (b1.below hb).set 0 (.slice a' la c')
  have B2 := (b2.below hb).setOther (a := ⟨w.heap.size, 0, none⟩) (by simp) (.slice a' la c')
  have hr1 := (hr.mono (by simp) (Nat.le_refl _) : Row (w.heap.size + 2) w1.heap.size w1 a' la xs).set (p := ⟨w.heap.size, 0, none⟩) (.inl (by simp)) (.slice a' la c')
  have hb1 := ((hg0 (.cells #[.slice a la ca, .int .i64 k, .int .i64 l] 94) (.cells #[.slice none 0 0, .int .i64 0, .int .i64 0] 94)).trans (hb.mono (by simp; omega))).setCell (p := ⟨w.heap.size, 0, none⟩) (by simp) (.slice a' la c')
  have s2 : (w1.setCell ⟨w.heap.size, 0, none⟩ (.slice a' la c')).heap.size = w1.heap.size := by simp
  obtain ⟨_, _, _, _, _, _⟩ := ((b1.below hb)).three
  go_wp2_with fail
  generalize hw2 : w1.setCell ⟨w.heap.size, 0, none⟩ (.slice a' la c') = w2 at *
  refine (setof_any _ _ _ en _ (hy.below hb1 hhi2) (by omega) hm2).mono ?_
  rintro e w3 ⟨a3, n, c3, rfl, hset, hb3⟩
  have s3 := hb3.size
  have hr3 := hr1.below hb3 (by omega)
  have B13 := B1.below hb3
  have B23 := B2.below hb3
  have hb4 := hb1.trans (hb3.mono (by omega))
  obtain ⟨_, _, _, _, _, _⟩ := B13.three
  obtain ⟨_, _, _, _, _, _⟩ := B23.three
  clear hw2
  go_wp2_with fail
  refine (count_any _ _ _ en _ ⟨_, _, hset⟩ (by have := HL.out; omega)).mono ?_
  rintro e w4 ⟨rfl, rfl⟩
  go_wp2_with fail
  obtain ⟨b', off', rfl, _, hbb, hcc⟩ := hr3.2.resolve_left (by omega)
  have hck := hcc k hk
  have hbs : b' < w3.heap.size := by omega
  have hle1 : (on 0 en).length ≤ 1000 := by have := HL.out; omega
  rw [HXV.out] at hck
  have T1 : Sem.run Tryd.prog (Instr.indexAt 22 (.slice (some ⟨b', off', none⟩) la c') (.int .i64 (k:Int))) w3 = .ok (.pointer (some ⟨b', off' + k, none⟩)) w3 := by go_simp
  clear hcc
  go_wp2_with fail
  rw [T1]
  go_wp2_with fail
  refine (modulo_any x ((on 0 en).length : Int) _ (by omega) (by omega)).mono ?_
  rintro e w4 ⟨rfl, rfl⟩
  go_wp2_with fail
  have hm0 := Int.emod_nonneg x (by omega : ((on 0 en).length : Int) ≠ 0)
  have hm1 := Int.emod_lt_of_pos x (by omega : (0 : Int) < ((on 0 en).length : Int))
  refine (nth_int _ _ _ en _ _ ⟨_, _, hset⟩ (by have := HL.out; omega) (HT.out.below hb4 HT.out.lt) hm0 hm1).mono ?_
  rw [HV.out]
  rintro e w4 ⟨rfl, rfl⟩
  go_wp2_with fail
  go_region
  all_goals go_wp2
  all_goals (refine bodyPost_ret (v := .tuple #[.int .i64 (v : Nat), .agg #[.slice (some ⟨b', off', none⟩) la c', .int .i64 (k + 1), .int .i64 (v : Nat)]]) (by simp only [results, Tryd.results57]; go_simp) rfl ⟨_, _, rfl, ?_, ?_⟩)
  · exact (((((hr3.set (.inl (by simp)) _ |>.set (.inl (by simp)) _).set (.inl (by simp)) _).set (.inl (by simp)) _).set (.inl (by simp)) _).drew).mono (by omega) (by simp; omega)
  · exact ((((hb4.setCell (by simp) _ |>.setCell (by simp) _).setCell (by simp) _).setCell (by simp) _).setCell (by simp) _).drew


/-- Next, whatever is handed in. -/
theorem Next_any (a b : Option Addr) (la ca lb cb : Nat) (xs : List Int) (en : List Bool) (p l : Int) (w : World) {lo hi lo2 hi2 : Nat} (hx : Row lo hi w a la xs) (hhi : hi ≤ w.heap.size) (hm : la ≤ 1000000)
    (hy : RowB lo2 hi2 w b lb en) (hhi2 : hi2 ≤ w.heap.size) (hm2 : lb ≤ 1000) (hT : Tab w) :
    Calls Tryd.prog 57 #[.agg #[.slice a la ca, .int .i64 p, .int .i64 l], .slice b lb cb] w fun e w' => ∃ a' c', e = .returned (.tuple #[.int .i64 (nextI xs p l en), .agg #[.slice a' la c', .int .i64 (nextAt xs p en), .int .i64 (nextLast xs p l en)]]) ∧ Row w.heap.size w'.heap.size w' a' la xs ∧ Below w.heap.size w w' := by
  have hl : xs.length = la := hx.1
  by_cases hon : on 0 en = []
  · rw [show nextI xs p l en = -1 by simp [nextI, hon], show nextAt xs p en = p by simp [nextAt, hon], show nextLast xs p l en = l by simp [nextLast, hon]]
    exact Next_none a b la ca lb cb xs en p l w hx hhi hm hy hhi2 hm2 hon
  · by_cases hp : 0 ≤ p ∧ p < la
    · obtain ⟨k, rfl⟩ : ∃ k : Nat, p = k := ⟨p.toNat, by omega⟩
      have hk : k < la := by omega
      rw [show nextAt xs k en = k + 1 by simp [nextAt, hon, hl, hk], show nextLast xs k l en = nextI xs k l en by simp [nextLast, hon]]
      rw [show nextI xs k l en = ((on 0 en).getD (xs.getD k 0 % ((on 0 en).length : Int)).toNat 0 : Nat) by simp [nextI, hon, hl, hk]]
      exact Next_hit a b la ca lb cb xs en k l w hx hhi hm hy hhi2 hm2 hT hon hk _ _ rfl rfl
    · rw [show nextAt xs p en = p by simp only [nextAt, hon, hl, if_false, if_neg hp], show nextLast xs p l en = nextI xs p l en by simp [nextLast, hon]]
      rw [show nextI xs p l en = behindI en l by simp only [nextI, hon, hl, if_false, if_neg hp]]
      by_cases hp0 : p < 0
      · exact Next_lo a b la ca lb cb xs en p l w hx hhi hm hy hhi2 hm2 hT hon hp0
      · exact Next_hi a b la ca lb cb xs en p l w hx hhi hm hy hhi2 hm2 hT hon (by omega) (by omega)

end Go.Proofs.YthhcchdjeeigpaaDoor
