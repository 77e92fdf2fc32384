/- Contracts of package play's sets of workers, as bits. Contracts of both Steps, whatever the task, Y of a find being any number. How operations, scripts, workers, events lie in memory. Contracts of package crew's Count. Contracts of package play's flags, may. Contract of package play's tasksOf. Contract of package play's start. Contract of package play's start: the walk. The game under way in memory; contract of package play's begin. -/
import Derived.Test.YthhcchdjeeigpaaDoorSetof
import Derived.Test.YthhcchdjeeigpaaDoorPlaym
import Derived.Laws.BitsAllLaws
import Derived.Test.YthhcchdjeeigpaaDoorCstep
import Derived.Test.YthhcchdjeeigpaaDoorCjb
import Derived.Test.YthhcchdjeeigpaaDoorCjc
import Derived.Test.YthhcchdjeeigpaaDoorMem
import Derived.Test.YthhcchdjeeigpaaDoorCops
import Derived.Test.YthhcchdjeeigpaaDoorTwo
import Derived.Test.YthhcchdjeeigpaaDoorProg
import Derived.IntWalk
import Derived.Deep.AppendLies
import Derived.Deep.CutRange
namespace Go.Proofs.YthhcchdjeeigpaaDoor
open Go.RowKit
set_option linter.unusedVariables false
set_option linter.unusedSimpArgs false

theorem wd_bit : ∀ (l : List Bool) (i : Nat), (wd l).testBit i = l.getD i false
  | [], i => by simp [wd]
  | b :: r, 0 => by cases b <;> simp [wd, Nat.testBit_zero]
  | b :: r, i + 1 => by
    have e : wd (b :: r) / 2 = wd r := by cases b <;> simp [wd] <;> omega
    rw [Nat.testBit_succ, e, wd_bit r i]; simp
theorem getD_set (l : List Bool) (i j : Nat) (b : Bool) (h : i < l.length) : (l.set i b).getD j false = if i = j then b else l.getD j false := by
  by_cases e : i = j
  · subst e; simp [List.getD, h]
  · simp [List.getD, List.getElem?_set, e]
theorem wd_set_true (l : List Bool) (i : Nat) (h : i < l.length) : wd l ||| 2 ^ i = wd (l.set i true) := by
  apply Nat.eq_of_testBit_eq
  intro j
  rw [Nat.testBit_or, Nat.testBit_two_pow, wd_bit, wd_bit, getD_set _ _ _ _ h]
  by_cases e : i = j <;> simp [e]
theorem wd_set_false (l : List Bool) (i : Nat) (h : i < l.length) (h6 : l.length ≤ 64) : wd l &&& (18446744073709551615 - 2 ^ i) = wd (l.set i false) := by
  apply Nat.eq_of_testBit_eq
  intro j
  have h2 : 2 ^ i < 2 ^ 64 := Nat.pow_lt_pow_right (by decide) (by omega)
  have e : 18446744073709551615 - 2 ^ i = 2 ^ 64 - (2 ^ i + 1) := by have : (2 : Nat) ^ 64 = 18446744073709551616 := by decide
                                                                     omega
  rw [Nat.testBit_and, e, Nat.testBit_two_pow_sub_succ h2, Nat.testBit_two_pow, wd_bit, wd_bit, getD_set _ _ _ _ h]
  by_cases e : i = j
  · simp [e]
  · by_cases hj : j < 64
    · simp [e, hj]
    · have : l.getD j false = false := by simp [List.getD, List.getElem?_eq_none (show l.length ≤ j by omega)]
      rw [this]; simp [e]
theorem wd_or {α : Type} (l : List α) (f g : α → Bool) : wd (l.map f) ||| wd (l.map g) = wd (l.map fun k => f k || g k) := by
  apply Nat.eq_of_testBit_eq
  intro j
  rw [Nat.testBit_or, wd_bit, wd_bit, wd_bit]
  cases h : l[j]? <;> simp [List.getD, h]

theorem has_any (l : List Bool) (i : Nat) (w : World) (h : l.length ≤ 64) (hi : i < 64) :
    Calls Tryd.prog 58 #[.int .u64 (wd l : Nat), .int .i64 (i : Int)] w fun e w' => e = .returned (.bool (l.getD i false)) ∧ w = w' := by
  have h0 := wd_lt64 l h
  have hb := wd_bit l i
  generalize wd l = x at *
  have h1 : x / 2 ^ i < 18446744073709551616 := Nat.lt_of_le_of_lt (Nat.div_le_self _ _) h0
  have e1 : ((x : Int) / 2 ^ i) = ((x / 2 ^ i : Nat) : Int) := by push_cast; rfl
  have e2 := bits_and_u64_nat (x / 2 ^ i) 1 h1 (by omega)
  have e3 : (((x / 2 ^ i &&& 1 : Nat) : Int) == 1) = l.getD i false := by
    rw [← hb, Nat.testBit_eq_decide_div_mod_eq, Nat.and_one_is_mod]
    generalize x / 2 ^ i = y
    rcases Nat.mod_two_eq_zero_or_one y with h | h <;> simp [h]
  have e2' : bits .and .u64 ((x / 2 ^ i : Nat) : Int) 1 = ((x / 2 ^ i &&& 1 : Nat) : Int) := e2
  generalize x / 2 ^ i &&& 1 = z at *
  generalize x / 2 ^ i = y at *
  generalize l.getD i false = b at *
  clear hb e2 h1
  go_enter Tryd.func58, Tryd.ntmps58
  go_wp2_with fail
  refine bodyPost_ret (v := .bool b) (by simp only [results, Tryd.results58]; go_simp) rfl ⟨rfl, rfl⟩

theorem with_any (l : List Bool) (i : Nat) (w : World) (h : l.length ≤ 64) (hi : i < l.length) (v : Nat) (hv : wd (l.set i true) = v) :
    Calls Tryd.prog 55 #[.int .u64 (wd l : Nat), .int .i64 (i : Int)] w fun e w' => e = .returned (.int .u64 (v : Int)) ∧ w = w' := by
  have h0 := wd_lt64 l h
  have hb := wd_set_true l i hi
  rw [hv] at hb
  generalize wd l = x at *
  have e2 := or_key x i h0 (by omega)
  rw [hb] at e2
  go_enter Tryd.func55, Tryd.ntmps55
  go_wp2_with fail
  refine bodyPost_ret (v := .int .u64 (v : Int)) ?_ rfl ⟨rfl, rfl⟩
  simp only [results, Tryd.results55]
  first | go_simp | skip

theorem without_any (l : List Bool) (i : Nat) (w : World) (h : l.length ≤ 64) (hi : i < l.length) (v : Nat) (hv : wd (l.set i false) = v) :
    Calls Tryd.prog 79 #[.int .u64 (wd l : Nat), .int .i64 (i : Int)] w fun e w' => e = .returned (.int .u64 (v : Int)) ∧ w = w' := by
  have h0 := wd_lt64 l h
  have hb := wd_set_false l i hi h
  rw [hv] at hb
  generalize wd l = x at *
  have h2 : 2 ^ i < 18446744073709551616 := Nat.lt_of_lt_of_le (Nat.pow_lt_pow_right (m := i) (n := 64) (show 1 < 2 by decide) (by omega)) (by decide)
  have e : IntKind.u64.wrap (2 ^ i) = ((2 ^ i : Nat) : Int) := by
    rw [← wrap_u64_nat (2 ^ i) h2]; simp
  have e2 : bits .andNot .u64 (x : Int) (IntKind.u64.wrap (2 ^ i)) = (v : Int) := by
    rw [e, u64_andNot_nat _ _ h0 h2, hb]
  clear h2 e hb
  go_enter Tryd.func79, Tryd.ntmps79
  go_wp2_with fail
  refine bodyPost_ret (v := .int .u64 (v : Int)) ?_ rfl ⟨rfl, rfl⟩
  simp only [results, Tryd.results79]
  first | go_simp | skip

theorem second_any (a b : Int) (w : World) :
    Calls Tryd.prog 61 #[.int .i64 a, .int .i64 b] w fun e w' => e = .returned (.bool (decide (4 ≤ a ∧ a < 7 ∧ b = 7))) ∧ w = w' := by
  by_cases h1 : 4 ≤ a
  · by_cases h2 : a < 7
    · by_cases h3 : b = 7
      · subst h3
        go_enter Tryd.func61, Tryd.ntmps61
        go_wp2_with fail
        go_ret
        simp [h1, h2]
      · have h4 : (b == 7) = false := by simpa using h3
        go_enter Tryd.func61, Tryd.ntmps61
        go_wp2_with fail
        go_ret
        simp [h3]
    · go_enter Tryd.func61, Tryd.ntmps61
      go_wp2_with fail
      go_ret
      simp; omega
  · go_enter Tryd.func61, Tryd.ntmps61
    go_wp2_with fail
    go_ret
    simp; omega

end Go.Proofs.YthhcchdjeeigpaaDoor

namespace Go.Proofs.YthhcchdjeeigpaaDoor
open Go.RowKit
set_option linter.unusedVariables false
set_option linter.unusedSimpArgs false

/-- V of a task: of a find it is Y all along. -/
def tV (t : Tk) (y : Int) : Int := if t.k = 1 then y else t.v
def tcells (t : Tk) (y : Int) : List Value := [.int .i64 (t.k : Int), .int .i64 (t.x : Int), .int .i64 y, .int .i64 (t.st : Int), .int .i64 (t.u : Int), .int .i64 (tV t y), .int .i64 (t.w : Int), .int .i64 (t.r : Int), .bool t.dn, .int .i64 (t.res : Int)]

set_option maxRecDepth 100000 in
set_option maxHeartbeats 1000000 in
theorem gstep_any (a b : Option Addr) (la ca cb : Nat) (pr : List Int) (up : List Nat) (t : Tk) (y : Int) (w : World) {lo hi lo2 hi2 : Nat} (I : Inv la pr up t) (hy : t.k ≠ 1 → y = (t.y : Int))
    (hp : RowN lo hi w a la up) (hhi : hi ≤ w.heap.size) (hq : Row lo2 hi2 w b la pr) (hhi2 : hi2 ≤ w.heap.size) (hm : la ≤ 1000000) (hdn : t.dn = false) :
    Calls Tryd.prog 60 #[.slice a la ca, .slice b la cb, .agg (tcells t y).toArray] w fun e w' =>
      ∃ g c, e = .returned (.tuple #[.slice (some ⟨g, 0, none⟩) la c, .agg (tcells (tks up pr t) y).toArray]) ∧ w.heap.size ≤ g ∧ Own w' g (ups up pr t) ∧ Below w.heap.size w w' := by
  by_cases hk : t.k = 1
  · have un := I.un
    have wn := I.wn
    have rn := I.rn
    have s1 := I.s1
    have kk := I.kk
    obtain ⟨k, x, y0, st, u, v, ww, r, dn, res⟩ := t
    dsimp only at un wn rn hk s1 kk hdn
    subst hk hdn
    have hst : st = 1 ∨ st = 2 ∨ st = 3 := by
      have : ¬ 4 ≤ st := fun h => kk h rfl
      omega
    rcases hst with rfl | rfl | rfl
    · by_cases e : el up u = u
      · have e1 : tks up pr ⟨1, x, y0, 1, u, v, ww, r, false, res⟩ = ⟨1, x, y0, 1, u, v, u, r, true, u⟩ := by simp [tks, Tk.fst, Tk.fin, e]
        have e2 : ups up pr ⟨1, x, y0, 1, u, v, ww, r, false, res⟩ = up := by simp [ups]
        rw [e1, e2]
        exact jstep_1r a b la ca cb pr up 1 x y u y ww r res w 1 true u hp hhi hq hhi2 un wn rn hm e (.inl ⟨by omega, rfl, rfl, rfl⟩)
      · have e1 : tks up pr ⟨1, x, y0, 1, u, v, ww, r, false, res⟩ = ⟨1, x, y0, 2, u, v, (el up u), r, false, res⟩ := by simp [tks, e]
        have e2 : ups up pr ⟨1, x, y0, 1, u, v, ww, r, false, res⟩ = up := by simp [ups]
        rw [e1, e2]
        exact jstep_1n a b la ca cb pr up 1 x y u y ww r res w hp hhi hq hhi2 un wn rn hm e
    · by_cases e : el up ww = ww
      · have e1 : tks up pr ⟨1, x, y0, 2, u, v, ww, r, false, res⟩ = ⟨1, x, y0, 2, ww, v, ww, ww, true, ww⟩ := by simp [tks, Tk.fst, Tk.fin, e]
        have e2 : ups up pr ⟨1, x, y0, 2, u, v, ww, r, false, res⟩ = up := by simp [ups]
        rw [e1, e2]
        exact jstep_2r a b la ca cb pr up 1 x y u y ww r res w 2 true ww hp hhi hq hhi2 un wn rn hm e (.inl ⟨by omega, rfl, rfl, rfl⟩)
      · have e1 : tks up pr ⟨1, x, y0, 2, u, v, ww, r, false, res⟩ = ⟨1, x, y0, 3, u, v, ww, (el up ww), false, res⟩ := by simp [tks, e]
        have e2 : ups up pr ⟨1, x, y0, 2, u, v, ww, r, false, res⟩ = up := by simp [ups]
        rw [e1, e2]
        exact jstep_2n a b la ca cb pr up 1 x y u y ww r res w hp hhi hq hhi2 un wn rn hm e
    · have e1 : tks up pr ⟨1, x, y0, 3, u, v, ww, r, false, res⟩ = ⟨1, x, y0, 1, ww, v, ww, r, false, res⟩ := by simp [tks]
      by_cases e : el up u = ww
      · have e2 : ups up pr ⟨1, x, y0, 3, u, v, ww, r, false, res⟩ = up.set u r := by simp [ups, e]
        rw [e1, e2]
        exact jstep_3y a b la ca cb pr up 1 x y u y ww r res w hp hhi hq hhi2 un wn rn hm e
      · have e2 : ups up pr ⟨1, x, y0, 3, u, v, ww, r, false, res⟩ = up := by simp [ups, e]
        rw [e1, e2]
        exact jstep_3n a b la ca cb pr up 1 x y u y ww r res w hp hhi hq hhi2 un wn rn hm e
  · have h := step_any a b la ca cb pr up t w I hp hhi hq hhi2 hm
    have e := tks_keeps up pr t
    have e1 : (tcells t y).toArray = t.cells.toArray := by simp [tcells, Tk.cells, tV, hk, hy hk]
    have e2 : (tcells (tks up pr t) y).toArray = (tks up pr t).cells.toArray := by simp [tcells, Tk.cells, tV, e.1, e.2.2, hk, hy hk]
    rw [e1, e2]
    exact h

set_option maxRecDepth 100000 in
set_option maxHeartbeats 1000000 in
theorem rgstep_any (a b : Option Addr) (la ca cb : Nat) (pr : List Int) (up : List Nat) (t : Tk) (y : Int) (w : World) {lo hi lo2 hi2 : Nat} (I : Inv la pr up t) (hy : t.k ≠ 1 → y = (t.y : Int))
    (hp : RowN lo hi w a la up) (hhi : hi ≤ w.heap.size) (hq : Row lo2 hi2 w b la pr) (hhi2 : hi2 ≤ w.heap.size) (hm : la ≤ 1000000) (hdn : t.dn = false) :
    Calls Tryd.prog 42 #[.slice a la ca, .slice b la cb, .agg (tcells t y).toArray] w fun e w' =>
      ∃ g c, e = .returned (.agg (.slice (some ⟨g, 0, none⟩) la c :: tcells (tks up pr t) y).toArray) ∧ w.heap.size ≤ g ∧ Own w' g (ups up pr t) ∧ Below w.heap.size w w' := by
  by_cases hk : t.k = 1
  · have un := I.un
    have wn := I.wn
    have rn := I.rn
    have s1 := I.s1
    have kk := I.kk
    obtain ⟨k, x, y0, st, u, v, ww, r, dn, res⟩ := t
    dsimp only at un wn rn hk s1 kk hdn
    subst hk hdn
    have hst : st = 1 ∨ st = 2 ∨ st = 3 := by
      have : ¬ 4 ≤ st := fun h => kk h rfl
      omega
    rcases hst with rfl | rfl | rfl
    · by_cases e : el up u = u
      · have e1 : tks up pr ⟨1, x, y0, 1, u, v, ww, r, false, res⟩ = ⟨1, x, y0, 1, u, v, u, r, true, u⟩ := by simp [tks, Tk.fst, Tk.fin, e]
        have e2 : ups up pr ⟨1, x, y0, 1, u, v, ww, r, false, res⟩ = up := by simp [ups]
        rw [e1, e2]
        exact jrstep_1r a b la ca cb pr up 1 x y u y ww r res w 1 true u hp hhi hq hhi2 un wn rn hm e (.inl ⟨by omega, rfl, rfl, rfl⟩)
      · have e1 : tks up pr ⟨1, x, y0, 1, u, v, ww, r, false, res⟩ = ⟨1, x, y0, 2, u, v, (el up u), r, false, res⟩ := by simp [tks, e]
        have e2 : ups up pr ⟨1, x, y0, 1, u, v, ww, r, false, res⟩ = up := by simp [ups]
        rw [e1, e2]
        exact jrstep_1n a b la ca cb pr up 1 x y u y ww r res w hp hhi hq hhi2 un wn rn hm e
    · by_cases e : el up ww = ww
      · have e1 : tks up pr ⟨1, x, y0, 2, u, v, ww, r, false, res⟩ = ⟨1, x, y0, 2, ww, v, ww, ww, true, ww⟩ := by simp [tks, Tk.fst, Tk.fin, e]
        have e2 : ups up pr ⟨1, x, y0, 2, u, v, ww, r, false, res⟩ = up := by simp [ups]
        rw [e1, e2]
        exact jrstep_2r a b la ca cb pr up 1 x y u y ww r res w 2 true ww hp hhi hq hhi2 un wn rn hm e (.inl ⟨by omega, rfl, rfl, rfl⟩)
      · have e1 : tks up pr ⟨1, x, y0, 2, u, v, ww, r, false, res⟩ = ⟨1, x, y0, 3, u, v, ww, (el up ww), false, res⟩ := by simp [tks, e]
        have e2 : ups up pr ⟨1, x, y0, 2, u, v, ww, r, false, res⟩ = up := by simp [ups]
        rw [e1, e2]
        exact jrstep_2n a b la ca cb pr up 1 x y u y ww r res w hp hhi hq hhi2 un wn rn hm e
    · have e1 : tks up pr ⟨1, x, y0, 3, u, v, ww, r, false, res⟩ = ⟨1, x, y0, 1, ww, v, ww, r, false, res⟩ := by simp [tks]
      by_cases e : el up u = ww
      · have e2 : ups up pr ⟨1, x, y0, 3, u, v, ww, r, false, res⟩ = up.set u r := by simp [ups, e]
        rw [e1, e2]
        exact jrstep_3y a b la ca cb pr up 1 x y u y ww r res w hp hhi hq hhi2 un wn rn hm e
      · have e2 : ups up pr ⟨1, x, y0, 3, u, v, ww, r, false, res⟩ = up := by simp [ups, e]
        rw [e1, e2]
        exact jrstep_3n a b la ca cb pr up 1 x y u y ww r res w hp hhi hq hhi2 un wn rn hm e
  · have h := rstep_any a b la ca cb pr up t w I hp hhi hq hhi2 hm
    have e := tks_keeps up pr t
    have e1 : (tcells t y).toArray = t.cells.toArray := by simp [tcells, Tk.cells, tV, hk, hy hk]
    have e2 : tcells (tks up pr t) y = (tks up pr t).cells := by simp [tcells, Tk.cells, tV, e.1, e.2.2, hk, hy hk]
    rw [e1, e2]
    exact h

end Go.Proofs.YthhcchdjeeigpaaDoor

namespace Go.Proofs.YthhcchdjeeigpaaDoor
open Go.RowKit
set_option linter.unusedVariables false
set_option linter.unusedSimpArgs false

/-- An operation as three numbers. -/
abbrev O3 := Int × Int × Int
def o3 : O3 → List Value := fun q => [.int .i64 q.1, .int .i64 q.2.1, .int .i64 q.2.2]

abbrev OpsRow (lo hi : Nat) (w : World) (a : Option Addr) (n : Nat) (os : List O3) : Prop := Sl 3 lo hi w a n (os.map o3)
/-- Scripts: a slice of slices of operations. -/
def Scr (hi : Nat) (w : World) (a : Option Addr) (n : Nat) (ss : List (List O3)) : Prop :=
  ss.length = n ∧ (n = 0 ∨ ∃ b off, a = some ⟨b, off, none⟩ ∧ b < hi ∧ ∀ i s, ss[i]? = some s → ∃ a' c', w.cell? ⟨b, off + i, none⟩ = some (.slice a' s.length c') ∧ OpsRow 0 hi w a' s.length s)
theorem Scr.below {hi n B : Nat} {w w' : World} {a : Option Addr} {ss : List (List O3)} (h : Scr hi w a n ss) (hb : Below B w w') (hh : hi ≤ B) : Scr hi w' a n ss := by
  obtain ⟨h1, h2 | ⟨b, off, rfl, hb', hc⟩⟩ := h
  · exact ⟨h1, .inl h2⟩
  · refine ⟨h1, .inr ⟨b, off, rfl, hb', fun i s hs => ?_⟩⟩
    obtain ⟨a', c', h3, h4⟩ := hc i s hs
    exact ⟨a', c', (hb.cell (p := ⟨b, off + i, none⟩) (show b < B by omega)).trans h3, h4.below hb hh⟩

/-- Those operations that may begin. -/
def toOpn (q : O3) : Opn := ⟨q.1.toNat, q.2.1.toNat, q.2.2⟩
def valid (n : Nat) (os : List O3) : List Opn := (os.filter fun q => decide (okB q.1 q.2.1 q.2.2 n)).map toOpn
theorem okB_opn {n : Nat} {q : O3} (h : okB q.1 q.2.1 q.2.2 n) : (toOpn q).ok n ∧ ((toOpn q).k : Int) = q.1 ∧ ((toOpn q).x : Int) = q.2.1 ∧ (toOpn q).y = q.2.2 := by
  obtain ⟨h1, h2, h3, h4⟩ := h
  refine ⟨⟨?_, ?_, ?_, fun hk => ?_⟩, ?_, ?_, rfl⟩
  · show 1 ≤ q.1.toNat; omega
  · show q.1.toNat ≤ 3; omega
  · show q.2.1.toNat < n; omega
  · change q.1.toNat ≠ 1 at hk
    exact h4 (by omega)
  · show ((q.1.toNat : Nat) : Int) = q.1; omega
  · show ((q.2.1.toNat : Nat) : Int) = q.2.1; omega
theorem valid_ok {n : Nat} {os : List O3} : ∀ o ∈ valid n os, o.ok n := by
  intro o ho
  unfold valid at ho
  simp only [List.mem_map, List.mem_filter, decide_eq_true_eq] at ho
  obtain ⟨q, ⟨_, h⟩, rfl⟩ := ho
  exact (okB_opn h).1
theorem valid_snoc (n : Nat) (os : List O3) (q : O3) : valid n (os ++ [q]) = valid n os ++ if okB q.1 q.2.1 q.2.2 n then [toOpn q] else [] := by
  unfold valid
  rw [List.filter_append, List.map_append]
  by_cases h : okB q.1 q.2.1 q.2.2 n <;> simp [List.filter_cons, h]
theorem valid_length_le (n : Nat) (os : List O3) : (valid n os).length ≤ os.length := by
  unfold valid; rw [List.length_map]; exact List.length_filter_le _ _

/-- A task that has not begun. -/
def ocells (o : Opn) : List Value := [.int .i64 (o.k : Int), .int .i64 (o.x : Int), .int .i64 o.y, .int .i64 1, .int .i64 (o.x : Int), .int .i64 o.y, .int .i64 0, .int .i64 0, .bool false, .int .i64 0]
theorem ocells_tk {n : Nat} {o : Opn} (h : o.ok n) : ocells o = tcells o.tk o.y := by
  have hv : tV o.tk o.y = o.y := by
    unfold tV
    by_cases hk : o.k = 1
    · rw [if_pos (show o.tk.k = 1 from hk)]
    · rw [if_neg (show ¬ o.tk.k = 1 from hk)]
      have := h.2.2.2 hk
      show ((if o.k = 1 then 0 else o.y.toNat : Nat) : Int) = o.y
      rw [if_neg hk]; omega
  unfold tcells
  rw [hv]
  rfl
def cellsK (os : List Opn) : List Value := os.flatMap ocells
theorem ocells_length (o : Opn) : (ocells o).length = 10 := rfl
theorem ocells_one (o : Opn) : ∀ v ∈ ocells o, v.oneCell' = true := by
  intro v hv
  simp [ocells] at hv
  rcases hv with rfl | rfl | rfl | rfl | rfl | rfl | rfl | rfl | rfl | rfl <;> rfl
theorem cellsK_length : ∀ os : List Opn, (cellsK os).length = os.length * 10
  | [] => rfl
  | q :: r => by have := cellsK_length r; unfold cellsK at *; rw [List.flatMap_cons, List.length_append, this, ocells_length, List.length_cons]; omega
theorem cellsK_snoc (os : List Opn) (q : Opn) : cellsK (os ++ [q]) = cellsK os ++ ocells q := by
  unfold cellsK; simp [List.flatMap_append]

/-! ### Workers: rows of 13 cells -/
def wcell (k : Wk) (rv : Value) : List Value := rv :: (tcells k.t k.y ++ [.int .i64 (k.bg : Int), .int .i64 (k.mt : Int)])
/-- Events in memory. -/
def ecells (e : Ev) : List Value := [.int .i64 e.wk, .int .i64 e.k, .int .i64 e.x, .int .i64 e.y, .int .i64 e.res, .int .i64 e.bg, .int .i64 e.pl, .int .i64 e.en]
def cellsE (l : List Ev) : List Value := l.flatMap ecells
theorem ecells_length (e : Ev) : (ecells e).length = 8 := rfl
theorem ecells_one (e : Ev) : ∀ v ∈ ecells e, v.oneCell' = true := by
  intro v hv
  simp [ecells] at hv
  rcases hv with rfl | rfl | rfl | rfl | rfl | rfl | rfl | rfl <;> rfl
theorem cellsE_snoc (l : List Ev) (e : Ev) : cellsE (l ++ [e]) = cellsE l ++ ecells e := by unfold cellsE; simp [List.flatMap_append]
theorem cellsE_length (l : List Ev) : (cellsE l).length = l.length * 8 := flat_length ecells_length l

end Go.Proofs.YthhcchdjeeigpaaDoor

namespace Go.Proofs.YthhcchdjeeigpaaDoor
open Go.RowKit
set_option linter.unusedVariables false
set_option linter.unusedSimpArgs false

/-- A slice of slices of these lengths. -/
def Heads (w : World) (a : Option Addr) (n : Nat) (ls : List Nat) : Prop :=
  ls.length = n ∧ (n = 0 ∨ ∃ b off, a = some ⟨b, off, none⟩ ∧ ∀ i m, ls[i]? = some m → ∃ a' c', w.cell? ⟨b, off + i, none⟩ = some (.slice a' m c'))
theorem sum_take_succ (l : List Nat) (k m : Nat) (h : l[k]? = some m) : (l.take (k + 1)).sum = (l.take k).sum + m := by
  rw [List.take_add_one, h]; simp
theorem sum_take_le (l : List Nat) (k : Nat) : (l.take k).sum ≤ l.sum := by
  conv => rhs; rw [← List.take_append_drop k l]
  rw [List.sum_append]; omega

theorem count_op (a : Option Addr) (la ca : Nat) (ls : List Nat) (w : World) (hs : Heads w a la ls) (hm : la ≤ 1000000) (ho : ls.sum ≤ 1000000) (v : Nat) (hv : ls.sum = v) :
    Calls Tryd.prog 53 #[.slice a la ca] w fun e w' => e = .returned (.int .i64 (v : Int)) ∧ w = w' := by
  obtain ⟨hl, hs⟩ := hs
  have HS := Lib.hid hs
  have HL := Lib.hid hl
  have HO := Lib.hid ho
  have HV := Lib.hid hv
  clear hs hl ho hv
  go_enter Tryd.func53, Tryd.ntmps53
  go_wp2_with fail
  go_loop [3, 8] (fun c i => ∃ k : Nat, k ≤ la ∧ i = .int .i64 k ∧ c = .int .i64 ((ls.take k).sum : Nat)) (fun _ i => la - (intOf i).toNat)
  case atStart => exact ⟨0, Nat.zero_le _, rfl, by simp⟩
  case round =>
    obtain ⟨k, hk, rfl, rfl⟩ := hrel
    by_cases hlt : k < la
    · obtain ⟨b, off, rfl, hc⟩ := HS.out.resolve_left (by omega)
      obtain ⟨m, hsk⟩ : ∃ m, ls[k]? = some m := ⟨_, List.getElem?_eq_getElem (by have := HL.out; omega)⟩
      obtain ⟨a', c', h3⟩ := hc k m hsk
      have e1 := sum_take_succ ls k m hsk
      have e2 := sum_take_le ls (k + 1)
      have e3 := HO.out
      obtain ⟨q, hq⟩ : ∃ q, (ls.take (k + 1)).sum = q := ⟨_, rfl⟩
      obtain ⟨p, hp⟩ : ∃ p, (ls.take k).sum = p := ⟨_, rfl⟩
      have HQ := Lib.hid hq
      rw [hq, hp] at e1
      rw [hq] at e2
      rw [hp]
      clear hc hsk hq hp
      have w1 : IntKind.i64.wrap ((p : Int) + (m : Int)) = (q : Int) := by rw [e1]; exact (IntWalk.i64_in _ (by omega)).trans (by omega)
      go_wp2_with fail
      go_round
      case rel => exact ⟨k + 1, by omega, by go_num, by rw [HQ.out]; congr 1; omega⟩
      case measure => simp [intOf]; omega
    · obtain rfl : k = la := by omega
      have e : ls.take k = ls := List.take_of_length_le (by rw [HL.out]; exact Nat.le_refl _)
      rw [e, HV.out]
      clear e
      go_wp2_with fail
      go_ret
      exact ⟨rfl, rfl⟩

theorem count_key (a : Option Addr) (la ca : Nat) (ls : List Nat) (w : World) (hs : Heads w a la ls) (hm : la ≤ 1000000) (ho : ls.sum ≤ 1000000) (v : Nat) (hv : ls.sum = v) :
    Calls Tryd.prog 45 #[.slice a la ca] w fun e w' => e = .returned (.int .i64 (v : Int)) ∧ w = w' := by
  obtain ⟨hl, hs⟩ := hs
  have HS := Lib.hid hs
  have HL := Lib.hid hl
  have HO := Lib.hid ho
  have HV := Lib.hid hv
  clear hs hl ho hv
  go_enter Tryd.func45, Tryd.ntmps45
  go_wp2_with fail
  go_loop [3, 8] (fun c i => ∃ k : Nat, k ≤ la ∧ i = .int .i64 k ∧ c = .int .i64 ((ls.take k).sum : Nat)) (fun _ i => la - (intOf i).toNat)
  case atStart => exact ⟨0, Nat.zero_le _, rfl, by simp⟩
  case round =>
    obtain ⟨k, hk, rfl, rfl⟩ := hrel
    by_cases hlt : k < la
    · obtain ⟨b, off, rfl, hc⟩ := HS.out.resolve_left (by omega)
      obtain ⟨m, hsk⟩ : ∃ m, ls[k]? = some m := ⟨_, List.getElem?_eq_getElem (by have := HL.out; omega)⟩
      obtain ⟨a', c', h3⟩ := hc k m hsk
      have e1 := sum_take_succ ls k m hsk
      have e2 := sum_take_le ls (k + 1)
      have e3 := HO.out
      obtain ⟨q, hq⟩ : ∃ q, (ls.take (k + 1)).sum = q := ⟨_, rfl⟩
      obtain ⟨p, hp⟩ : ∃ p, (ls.take k).sum = p := ⟨_, rfl⟩
      have HQ := Lib.hid hq
      rw [hq, hp] at e1
      rw [hq] at e2
      rw [hp]
      clear hc hsk hq hp
      have w1 : IntKind.i64.wrap ((p : Int) + (m : Int)) = (q : Int) := by rw [e1]; exact (IntWalk.i64_in _ (by omega)).trans (by omega)
      go_wp2_with fail
      go_round
      case rel => exact ⟨k + 1, by omega, by go_num, by rw [HQ.out]; congr 1; omega⟩
      case measure => simp [intOf]; omega
    · obtain rfl : k = la := by omega
      have e : ls.take k = ls := List.take_of_length_le (by rw [HL.out]; exact Nat.le_refl _)
      rw [e, HV.out]
      clear e
      go_wp2_with fail
      go_ret
      exact ⟨rfl, rfl⟩

end Go.Proofs.YthhcchdjeeigpaaDoor

namespace Go.Proofs.YthhcchdjeeigpaaDoor
open Go.RowKit
set_option linter.unusedVariables false
set_option linter.unusedSimpArgs false

theorem Tryd.boolInfo : (Tryd.prog.info? 4).map (fun i => (i.zero, i.size, i.bytes)) = some (some (.bool false), 1, 1) := by kernel_rfl

theorem flags_upd (l : List Bool) (k : Nat) (h : k < l.length) : ((l.take k ++ List.replicate (l.length - k) false).map Value.bool).set k (.bool (l.getD k false)) = (l.take (k + 1) ++ List.replicate (l.length - (k + 1)) false).map Value.bool := by
  rw [← List.map_set]
  congr 1
  have hg : l.take (k + 1) = l.take k ++ [l.getD k false] := by
    rw [List.take_add_one, List.getElem?_eq_getElem h]; simp [List.getD, h]
  have e : l.length - k = (l.length - (k + 1)) + 1 := by omega
  rw [hg, List.set_append_right _ _ (by simp; omega)]
  have e2 : k - (l.take k).length = 0 := by simp; omega
  rw [e2, e, List.replicate_succ, List.set_cons_zero, List.append_assoc]
  rfl

/-- How many operations there are in all. -/
def opsN (ss : List (List O3)) : Nat := (ss.map List.length).sum
theorem opsN_take (ss : List (List O3)) (k : Nat) (s : List O3) (h : ss[k]? = some s) : opsN (ss.take (k + 1)) = opsN (ss.take k) + s.length := by
  unfold opsN; rw [List.take_add_one, h]; simp
theorem opsN_le (ss : List (List O3)) (k : Nat) : opsN (ss.take k) ≤ opsN ss := by
  unfold opsN
  conv => rhs; rw [← List.take_append_drop k ss]
  rw [List.map_append, List.sum_append]; omega

theorem Scr.heads {hi n : Nat} {w : World} {a : Option Addr} {ss : List (List O3)} (h : Scr hi w a n ss) : Heads w a n (ss.map List.length) := by
  obtain ⟨h1, h2 | ⟨b, off, rfl, _, hc⟩⟩ := h
  · exact ⟨by simpa using h1, .inl h2⟩
  · refine ⟨by simpa using h1, .inr ⟨b, off, rfl, fun i m hm => ?_⟩⟩
    rw [List.getElem?_map] at hm
    cases hs : ss[i]? with
    | none => rw [hs] at hm; cases hm
    | some s =>
      rw [hs] at hm
      cases hm
      obtain ⟨a', c', h3, _⟩ := hc i s hs
      exact ⟨a', c', h3⟩

theorem may_play (n : Int) (a : Option Addr) (la ca : Nat) (ss : List (List O3)) (w : World) {hi : Nat} (hs : Scr hi w a la ss) (hm : la ≤ 1000000) (ho : opsN ss ≤ 1000000) :
    Calls Tryd.prog 33 #[.int .i64 n, .slice a la ca] w fun e w' => e = .returned (.bool (decide (n ≤ 4096 ∧ la ≤ 64 ∧ opsN ss ≤ 4096))) ∧ w = w' := by
  obtain ⟨r, hr⟩ : ∃ r, decide (n ≤ 4096 ∧ la ≤ 64 ∧ opsN ss ≤ 4096) = r := ⟨_, rfl⟩
  rw [hr]
  obtain ⟨q, hq⟩ : ∃ q, opsN ss = q := ⟨_, rfl⟩
  rw [hq] at hr
  have HC := Lib.hid (fun w' (h : Scr hi w' a la ss) => count_op a la ca (ss.map List.length) w' h.heads hm ho q hq)
  have HS := Lib.hid hs
  clear hs ho hq
  by_cases h1 : n ≤ 4096
  · by_cases h2 : (la : Int) ≤ 64
    · have d1 : decide (n ≤ 4096) = true := decide_eq_true h1
      have d2 : decide ((la : Int) ≤ 64) = true := decide_eq_true h2
      have d3 : decide ((q : Int) ≤ 4096) = r := by rw [← hr, decide_eq_decide]; omega
      clear hr
      go_enter Tryd.func33, Tryd.ntmps33
      go_wp2_with (first | (go_at_call 53; (with_reducible refine (HC.out _ HS.out).mono ?_); rintro e w' ⟨rfl, rfl⟩))
      go_ret
      exact ⟨by simp only [d3]; rfl, rfl⟩
    · obtain rfl : r = false := by rw [← hr]; exact decide_eq_false (fun q => by omega)
      have d2 : decide ((la : Int) ≤ 64) = false := decide_eq_false h2
      clear hr
      go_enter Tryd.func33, Tryd.ntmps33
      go_wp2_with fail
      go_ret
      exact ⟨rfl, rfl⟩
  · obtain rfl : r = false := by rw [← hr]; exact decide_eq_false (fun q => by omega)
    have d1 : decide (n ≤ 4096) = false := decide_eq_false h1
    clear hr
    go_enter Tryd.func33, Tryd.ntmps33
    go_wp2_with fail
    go_ret
    exact ⟨rfl, rfl⟩

end Go.Proofs.YthhcchdjeeigpaaDoor

namespace Go.Proofs.YthhcchdjeeigpaaDoor
open Go.RowKit
set_option linter.unusedVariables false
set_option linter.unusedSimpArgs false

theorem Tryd.ptaskInfo : (Tryd.prog.info? 87).map (fun i => (i.zero, i.size, i.bytes)) = some (some (.agg #[.int .i64 0, .int .i64 0, .int .i64 0, .int .i64 0, .int .i64 0, .int .i64 0, .int .i64 0, .int .i64 0, .bool false, .int .i64 0]), 10, 80) := by kernel_rfl

theorem At.three {w : World} {b off i : Nat} {os : List O3} {q : O3} (h : At 3 w b off (os.map o3)) (hq : os[i]? = some q) : w.cell? ⟨b, off + i * 3, none⟩ = some (.int .i64 q.1) ∧ w.cell? ⟨b, off + i * 3 + 1, none⟩ = some (.int .i64 q.2.1) ∧ w.cell? ⟨b, off + i * 3 + 2, none⟩ = some (.int .i64 q.2.2) := by
  have hx : (os.map o3)[i]? = some (o3 q) := by rw [List.getElem?_map, hq]; rfl
  exact ⟨h i _ hx 0 _ rfl, h i _ hx 1 _ rfl, h i _ hx 2 _ rfl⟩

set_option maxRecDepth 100000 in
set_option maxHeartbeats 2000000 in
theorem tasks_any (a : Option Addr) (la ca : Nat) (os : List O3) (n : Nat) (w : World) {lo hi : Nat} (hx : OpsRow lo hi w a la os) (hhi : hi ≤ w.heap.size) (hm : la ≤ 1000000) :
    Calls Tryd.prog 54 #[.slice a la ca, .int .i64 (n : Int)] w fun e w' => ∃ v, e = .returned v ∧ w'.ownsRow w.heap.size 87 10 v (valid n os).length (cellsK (valid n os)) ∧ Below w.heap.size w w' := by
  obtain ⟨i0, hi0, hz0, hz1, hz2⟩ := info_parts Tryd.ptaskInfo
  have HX := Lib.hid hx
  have HL : Hid (os.length = la) := Lib.hid (by have := hx.1; simpa using this)
  clear hx
  go_enter Tryd.func54, Tryd.ntmps54
  go_wp2_with fail
  go_loopw [5, 12] (fun lv iv wr => ∃ (k m : Nat), k ≤ la ∧ iv = .int .i64 (k : Int) ∧ m ≤ la ∧ wr.ownsRow w.heap.size 87 10 lv m (cellsK (valid n (os.take k))) ∧ Hid (m = (valid n (os.take k)).length) ∧ Below w.heap.size w wr) (fun _ iv _ => la - (intOf iv).toNat)
  case atStart => exact ⟨0, 0, Nat.zero_le _, rfl, Nat.zero_le _, World.ownsRow_nil _ _ _ _, rfl, Below.refl _ _⟩
  case round =>
    obtain ⟨k, m, hk, rfl, hml, hown, hm', hb⟩ := hrel
    have sr := hb.size
    by_cases hlt : k < la
    · obtain ⟨b, off, rfl, _, hbb, hc⟩ := HX.out.at (by omega)
      obtain ⟨q, hq⟩ : ∃ q, os[k]? = some q := ⟨_, List.getElem?_eq_getElem (by have := HL.out; omega)⟩
      obtain ⟨c0, c1, c2⟩ := hc.three hq
      have d0 := (hb.cell (p := ⟨b, off + k * 3, none⟩) (show b < w.heap.size by omega)).trans c0
      have d1 := (hb.cell (p := ⟨b, off + k * 3 + 1, none⟩) (show b < w.heap.size by omega)).trans c1
      have d2 := (hb.cell (p := ⟨b, off + k * 3 + 2, none⟩) (show b < w.heap.size by omega)).trans c2
      have hbw : b < wr.heap.size := by omega
      have ht : os.take (k + 1) = os.take k ++ [q] := by rw [List.take_add_one, hq]; rfl
      have hv := valid_snoc n (os.take k) q
      rw [← ht] at hv
      obtain ⟨ok, ox, oy⟩ := q
      dsimp only at d0 d1 d2 hv
      have HB := Lib.hid hb
      have HOWN := Lib.hid hown
      clear hc hq c0 c1 c2 hb hown ht
      by_cases ho : okB ok ox oy n
      · rw [if_pos ho] at hv
        have HBT : Hid (∀ w', Calls Tryd.prog 72 #[.agg #[.int .i64 ok, .int .i64 ox, .int .i64 oy], .int .i64 n] w' fun e w'' => e = .returned (.tuple #[.agg #[.int .i64 ok, .int .i64 ox, .int .i64 oy, .int .i64 1, .int .i64 ox, .int .i64 oy, .int .i64 0, .int .i64 0, .bool false, .int .i64 0], .bool true]) ∧ Below w'.heap.size w' w'') := fun w' => by
          have := begin_any ok ox oy n w'
          rwa [begT_yes ho, decide_eq_true ho] at this
        have hoc : ocells (toOpn (ok, ox, oy)) = [.int .i64 ok, .int .i64 ox, .int .i64 oy, .int .i64 1, .int .i64 ox, .int .i64 oy, .int .i64 0, .int .i64 0, .bool false, .int .i64 0] := by
          obtain ⟨_, h1, h2, h3⟩ := okB_opn (q := (ok, ox, oy)) ho
          unfold ocells
          rw [h1, h2, h3]
        have HV := Lib.hid hv
        have HOC := Lib.hid hoc
        clear hv hoc ho
        go_wp2_with fail
        refine (HBT.out _).mono ?_
        rintro e w3 ⟨rfl, hb3⟩
        have s3 := hb3.size
        rw [World.size_alloc] at s3
        have hb4 : Hid (Below w.heap.size w w3) := HB.out.trans ((Below.refl wr.heap.size wr).alloc (Nat.le_refl _) _ |>.trans (hb3.mono (by simp)) |>.mono sr)
        have HO3 : Hid (w3.ownsRow w.heap.size 87 10 u5 m (cellsK (valid n (os.take k)))) := ownsRow_below (HOWN.out.alloc _) hb3
        have hnx := Box.new w3 87 [.int .i64 ok, .int .i64 ox, .int .i64 oy, .int .i64 1, .int .i64 ox, .int .i64 oy, .int .i64 0, .int .i64 0, .bool false, .int .i64 0]
        have HN : Hid (∀ (W : World) (q : Nat) (u : Value), ([.int .i64 ok, .int .i64 ox, .int .i64 oy, .int .i64 1, .int .i64 ox, .int .i64 oy, .int .i64 0, .int .i64 0, .bool false, .int .i64 0] : List Value)[q]? = some u → (W.alloc (.cells #[.int .i64 ok, .int .i64 ox, .int .i64 oy, .int .i64 1, .int .i64 ox, .int .i64 oy, .int .i64 0, .int .i64 0, .bool false, .int .i64 0] 87)).cell? (Addr.add ⟨W.heap.size, 0, none⟩ q) = some u) := fun W q u hq =>
          World.news_of_block (w := W.alloc (.cells #[.int .i64 ok, .int .i64 ox, .int .i64 oy, .int .i64 1, .int .i64 ox, .int .i64 oy, .int .i64 0, .int .i64 0, .bool false, .int .i64 0] 87)) (B := W.heap.size) (cs := #[.int .i64 ok, .int .i64 ox, .int .i64 oy, .int .i64 1, .int .i64 ox, .int .i64 oy, .int .i64 0, .int .i64 0, .bool false, .int .i64 0]) (Box.new W 87 [.int .i64 ok, .int .i64 ox, .int .i64 oy, .int .i64 1, .int .i64 ox, .int .i64 oy, .int .i64 0, .int .i64 0, .bool false, .int .i64 0]) q u (by simpa using hq)
        have hb5 : Hid (Below w.heap.size w (w3.alloc (.cells #[.int .i64 ok, .int .i64 ox, .int .i64 oy, .int .i64 1, .int .i64 ox, .int .i64 oy, .int .i64 0, .int .i64 0, .bool false, .int .i64 0] 87))) := hb4.out.alloc (by omega) _
        have HO5 : Hid ((w3.alloc (.cells #[.int .i64 ok, .int .i64 ox, .int .i64 oy, .int .i64 1, .int .i64 ox, .int .i64 oy, .int .i64 0, .int .i64 0, .bool false, .int .i64 0] 87)).ownsRow w.heap.size 87 10 u5 m (cellsK (valid n (os.take k)))) := HO3.out.alloc _
        have HN2 : Hid (∀ (q : Nat) (u : Value), ([.int .i64 ok, .int .i64 ox, .int .i64 oy, .int .i64 1, .int .i64 ox, .int .i64 oy, .int .i64 0, .int .i64 0, .bool false, .int .i64 0] : List Value)[q]? = some u → ((w3.alloc (.cells #[.int .i64 ok, .int .i64 ox, .int .i64 oy, .int .i64 1, .int .i64 ox, .int .i64 oy, .int .i64 0, .int .i64 0, .bool false, .int .i64 0] 87)).alloc (.cells #[.int .i64 ok, .int .i64 ox, .int .i64 oy, .int .i64 1, .int .i64 ox, .int .i64 oy, .int .i64 0, .int .i64 0, .bool false, .int .i64 0] 87)).cell? (Addr.add ⟨w3.heap.size + 1, 0, none⟩ q) = some u) := fun q u hq => by
          have := HN.out (w3.alloc (.cells #[.int .i64 ok, .int .i64 ox, .int .i64 oy, .int .i64 1, .int .i64 ox, .int .i64 oy, .int .i64 0, .int .i64 0, .bool false, .int .i64 0] 87)) q u hq
          rwa [World.size_alloc] at this
        clear hb3 d0 d1 d2 hnx
        go_wp2_with (at_builtin; refine wpList_append_lies _ rfl _ _ 123 rfl w.heap.size 87 i0 (.agg #[.int .i64 0, .int .i64 0, .int .i64 0, .int .i64 0, .int .i64 0, .int .i64 0, .int .i64 0, .int .i64 0, .bool false, .int .i64 0]) 10 80 Tryd.underlying123 hi0 hz0 hz1 hz2 rfl (by decide) _ m (cellsK (valid n (os.take k))) rfl (HO5.out.alloc _) ⟨w3.heap.size + 1, 0, none⟩ 1 1 [.int .i64 ok, .int .i64 ox, .int .i64 oy, .int .i64 1, .int .i64 ox, .int .i64 oy, .int .i64 0, .int .i64 0, .bool false, .int .i64 0] rfl rfl HN2.out ?c2 (by decide) ?c3 ?c4 ?c5 _ rfl ?_)
        case c2 => intro v hv; simp at hv; rcases hv with rfl | rfl | rfl | rfl | rfl | rfl | rfl | rfl | rfl | rfl <;> rfl
        case c3 => unfold maxLen; omega
        case c4 => omega
        case c5 => simp; omega
        intro g cap w9 hown9 hgrow hat hlt9
        have hvb : ∀ q, u5.ownBlock = some q → w.heap.size ≤ q := fun q hq => (HOWN.out.lt q hq).1
        have hb9 : Below w.heap.size w w9 := (hb5.out.alloc (by simp; omega) _).grown hgrow (by simp; omega) hvb
        rw [← HOC.out, ← cellsK_snoc, ← HV.out] at hown9
        clear hgrow hat
        go_wp2_with fail
        go_roundw
        case rel => exact ⟨k + 1, m + 1, by omega, by go_num, (by have := hm'.out; have := valid_length_le n (os.take k); simp at this; omega), hown9, (by show m + 1 = _; rw [HV.out, List.length_append, ← hm'.out]; rfl), hb9⟩
        case measure => simp [intOf]; omega
      · rw [if_neg ho, List.append_nil] at hv
        have HBT : Hid (∀ w', Calls Tryd.prog 72 #[.agg #[.int .i64 ok, .int .i64 ox, .int .i64 oy], .int .i64 n] w' fun e w'' => e = .returned (.tuple #[.agg #[.int .i64 0, .int .i64 0, .int .i64 0, .int .i64 0, .int .i64 0, .int .i64 0, .int .i64 0, .int .i64 0, .bool false, .int .i64 0], .bool false]) ∧ Below w'.heap.size w' w'') := fun w' => by
          have := begin_any ok ox oy n w'
          rwa [begT_no ho, decide_eq_false ho] at this
        have HV := Lib.hid hv
        clear hv ho
        go_wp2_with fail
        refine (HBT.out _).mono ?_
        rintro e w3 ⟨rfl, hb3⟩
        have s3 := hb3.size
        rw [World.size_alloc] at s3
        have hb4 : Hid (Below w.heap.size w w3) := HB.out.trans ((Below.refl wr.heap.size wr).alloc (Nat.le_refl _) _ |>.trans (hb3.mono (by simp)) |>.mono sr)
        have HO3 : Hid (w3.ownsRow w.heap.size 87 10 u5 m (cellsK (valid n (os.take k)))) := ownsRow_below (HOWN.out.alloc _) hb3
        clear hb3 d0 d1 d2
        go_wp2_with fail
        go_roundw
        case rel => exact ⟨k + 1, m, by omega, by go_num, hml, by rw [HV.out]; exact HO3.out.alloc _, by show m = _; rw [HV.out]; exact hm'.out, hb4.out.alloc (by omega) _⟩
        case measure => simp [intOf]; omega
    · obtain rfl : k = la := by omega
      have e : os.take k = os := List.take_of_length_le (by rw [HL.out]; exact Nat.le_refl _)
      rw [e] at hown hm'
      have HM := hm'.out
      subst HM
      go_wp2_with fail
      go_ret
      exact ⟨_, rfl, hown, hb⟩

end Go.Proofs.YthhcchdjeeigpaaDoor

namespace Go.Proofs.YthhcchdjeeigpaaDoor
open Go.RowKit
set_option linter.unusedVariables false
set_option linter.unusedSimpArgs false

/-- What a worker has yet to begin, in memory. -/
def Rest (lo hi : Nat) (w : World) (rv : Value) (os : List Opn) : Prop := ∃ a c, rv = .slice a os.length c ∧ os.length ≤ c ∧ Sl 10 lo hi w a os.length (os.map ocells)
theorem Rest.agree {lo hi : Nat} {w w' : World} {rv : Value} {os : List Opn} (h : Rest lo hi w rv os) (hb : ∀ b, lo ≤ b → b < hi → w'.heap[b]? = w.heap[b]?) : Rest lo hi w' rv os := by
  obtain ⟨a, c, h1, h0, h2⟩ := h
  exact ⟨a, c, h1, h0, h2.agree hb⟩
theorem Rest.mono {lo hi hi' : Nat} {w : World} {rv : Value} {os : List Opn} (h : Rest lo hi w rv os) (hh : hi ≤ hi') : Rest lo hi' w rv os := by
  obtain ⟨a, c, h1, h0, h2⟩ := h
  exact ⟨a, c, h1, h0, h2.mono (Nat.le_refl _) hh⟩
/-- The workers in memory. -/
def WRow (lo hi : Nat) (w : World) (B : Nat) (ws : List Wk) : Prop :=
  ∃ cs, RowsIn 13 w B cs ∧ cs.length = ws.length ∧ ∀ (i : Nat) (k : Wk), ws[i]? = some k → ∃ rv, cs[i]? = some (wcell k rv) ∧ Rest lo hi w rv k.left
theorem wcell_length (k : Wk) (rv : Value) : (wcell k rv).length = 13 := rfl
theorem WRow.len13 {ws : List Wk} {cs : List (List Value)} (hl : cs.length = ws.length) (h : ∀ (i : Nat) (k : Wk), ws[i]? = some k → ∃ rv, cs[i]? = some (wcell k rv)) : ∀ y ∈ cs, y.length = 13 := by
  intro y hy
  obtain ⟨i, hi, rfl⟩ := List.getElem_of_mem hy
  obtain ⟨rv, h1⟩ := h i _ (List.getElem?_eq_getElem (by omega))
  rw [List.getElem?_eq_getElem hi] at h1
  have := Option.some.inj h1
  rw [this]; rfl
theorem WRow.agree {lo hi B : Nat} {w w' : World} {ws : List Wk} (h : WRow lo hi w B ws) (hb : ∀ b, (b = B ∨ (lo ≤ b ∧ b < hi)) → w'.heap[b]? = w.heap[b]?) (hs : w.heap.size ≤ w'.heap.size) : WRow lo hi w' B ws := by
  obtain ⟨cs, h1, h2, h3⟩ := h
  refine ⟨cs, h1.agree (hb B (.inl rfl)) hs, h2, fun i k hk => ?_⟩
  obtain ⟨rv, h4, h5⟩ := h3 i k hk
  exact ⟨rv, h4, h5.agree fun b hl hh => hb b (.inr ⟨hl, hh⟩)⟩
theorem WRow.mono {lo hi hi' B : Nat} {w : World} {ws : List Wk} (h : WRow lo hi w B ws) (hh : hi ≤ hi') : WRow lo hi' w B ws := by
  obtain ⟨cs, h1, h2, h3⟩ := h
  refine ⟨cs, h1, h2, fun i k hk => ?_⟩
  obtain ⟨rv, h4, h5⟩ := h3 i k hk
  exact ⟨rv, h4, h5.mono hh⟩
/-- A worker's cells. -/
theorem WRow.get {lo hi B i : Nat} {w : World} {ws : List Wk} {k : Wk} (h : WRow lo hi w B ws) (hk : ws[i]? = some k) : ∃ a c, k.left.length ≤ c ∧ Sl 10 lo hi w a k.left.length (k.left.map ocells) ∧ ∀ j v, (wcell k (.slice a k.left.length c))[j]? = some v → w.cell? ⟨B, i * 13 + j, none⟩ = some v ∧ w.frozen? ⟨B, i * 13 + j, none⟩ = false := by
  obtain ⟨cs, h1, h2, h3⟩ := h
  obtain ⟨rv, h4, a, c, rfl, h0, h5⟩ := h3 i k hk
  exact ⟨a, c, h0, h5, fun j v hv => h1.2 i _ h4 j v hv⟩
/-- One cell of a worker is another one: what the row becomes. -/
def WPart (lo hi : Nat) (w : World) (B i : Nat) (ws : List Wk) (x : List Value) : Prop :=
  i < ws.length ∧ ∃ cs, RowsIn 13 w B cs ∧ cs.length = ws.length ∧ cs[i]? = some x ∧ x.length = 13 ∧ ∀ (j : Nat) (k : Wk), j ≠ i → ws[j]? = some k → ∃ rv, cs[j]? = some (wcell k rv) ∧ Rest lo hi w rv k.left
theorem WRow.part {lo hi B i : Nat} {w : World} {ws : List Wk} {k : Wk} (h : WRow lo hi w B ws) (hk : ws[i]? = some k) : ∃ a c, k.left.length ≤ c ∧ Sl 10 lo hi w a k.left.length (k.left.map ocells) ∧ WPart lo hi w B i ws (wcell k (.slice a k.left.length c)) := by
  obtain ⟨cs, h1, h2, h3⟩ := h
  obtain ⟨rv, h4, a, c, rfl, h0, h5⟩ := h3 i k hk
  exact ⟨a, c, h0, h5, (List.getElem?_eq_some_iff.1 hk).1, cs, h1, h2, h4, rfl, fun j q _ hq => h3 j q hq⟩
theorem WPart.agree {lo hi B i : Nat} {w w' : World} {ws : List Wk} {x : List Value} (h : WPart lo hi w B i ws x) (hb : ∀ b, (b = B ∨ (lo ≤ b ∧ b < hi)) → w'.heap[b]? = w.heap[b]?) (hs : w.heap.size ≤ w'.heap.size) : WPart lo hi w' B i ws x := by
  obtain ⟨h0, cs, h1, h2, h3, h4, h5⟩ := h
  refine ⟨h0, cs, h1.agree (hb B (.inl rfl)) hs, h2, h3, h4, fun j k hj hk => ?_⟩
  obtain ⟨rv, h6, h7⟩ := h5 j k hj hk
  exact ⟨rv, h6, h7.agree fun b hl hh => hb b (.inr ⟨hl, hh⟩)⟩
theorem WPart.mono {lo hi hi' B i : Nat} {w : World} {ws : List Wk} {x : List Value} (h : WPart lo hi w B i ws x) (hh : hi ≤ hi') : WPart lo hi' w B i ws x := by
  obtain ⟨h0, cs, h1, h2, h3, h4, h5⟩ := h
  refine ⟨h0, cs, h1, h2, h3, h4, fun j k hj hk => ?_⟩
  obtain ⟨rv, h6, h7⟩ := h5 j k hj hk
  exact ⟨rv, h6, h7.mono hh⟩
theorem WPart.cell {lo hi B i : Nat} {w : World} {ws : List Wk} {x : List Value} (h : WPart lo hi w B i ws x) (j : Nat) (v : Value) (hv : x[j]? = some v) : w.cell? ⟨B, i * 13 + j, none⟩ = some v ∧ w.frozen? ⟨B, i * 13 + j, none⟩ = false := by
  obtain ⟨h0, cs, h1, h2, h3, h4, h5⟩ := h
  exact h1.2 i x h3 j v hv
theorem WPart.put {lo hi B i j : Nat} {w : World} {ws : List Wk} {x : List Value} (h : WPart lo hi w B i ws x) (hB : B < lo ∨ hi ≤ B) (hj : j < 13) (v : Value) : WPart lo hi (w.setCell ⟨B, i * 13 + j, none⟩ v) B i ws (x.set j v) := by
  obtain ⟨h0, cs, h1, h2, h3, h4, h5⟩ := h
  have hk : ∀ y ∈ cs, y.length = 13 := by
    intro y hy
    obtain ⟨q, hq, rfl⟩ := List.getElem_of_mem hy
    by_cases e : q = i
    · subst e
      rw [List.getElem?_eq_getElem hq] at h3
      have := Option.some.inj h3
      rw [this]; exact h4
    · obtain ⟨rv, h6, _⟩ := h5 q _ e (List.getElem?_eq_getElem (by omega))
      rw [List.getElem?_eq_getElem hq] at h6
      have := Option.some.inj h6
      rw [this]; rfl
  refine ⟨h0, cs.set i (x.set j v), h1.put h3 (v0 := x[j]'(by omega)) (List.getElem?_eq_getElem (by omega)) hk, by simpa using h2, by rw [List.getElem?_set_self (by omega)], by simpa using h4, fun q k hq hk' => ?_⟩
  obtain ⟨rv, h6, h7⟩ := h5 q k hq hk'
  refine ⟨rv, by rw [List.getElem?_set_ne (Ne.symm hq)]; exact h6, h7.agree fun b hl hh => Below.heap_setCell w _ v b (by show b ≠ B; omega)⟩
theorem WPart.row {lo hi B i : Nat} {w : World} {ws : List Wk} {x : List Value} (h : WPart lo hi w B i ws x) {k : Wk} {rv : Value} (hx : x = wcell k rv) (hr : Rest lo hi w rv k.left) : WRow lo hi w B (ws.set i k) := by
  obtain ⟨h0, cs, h1, h2, h3, h4, h5⟩ := h
  refine ⟨cs, h1, by simpa using h2, fun j q hq => ?_⟩
  rcases set_get' hq with ⟨rfl, rfl⟩ | ⟨hne, hq⟩
  · exact ⟨rv, by rw [h3, hx], hr⟩
  · exact h5 j q (Ne.symm hne) hq

def wz : List Value := [.slice none 0 0, .int .i64 0, .int .i64 0, .int .i64 0, .int .i64 0, .int .i64 0, .int .i64 0, .int .i64 0, .int .i64 0, .bool false, .int .i64 0, .int .i64 0, .int .i64 0]
theorem wz_new : wcell (Wk.new []) (.slice none 0 0) = wz := rfl
theorem Tryd.pworkInfo : (Tryd.prog.info? 127).map (fun i => (i.zero, i.size, i.bytes)) = some (some (.agg #[.slice none 0 0, .int .i64 0, .int .i64 0, .int .i64 0, .int .i64 0, .int .i64 0, .int .i64 0, .int .i64 0, .int .i64 0, .bool false, .int .i64 0, .int .i64 0, .int .i64 0]), 13, 120) := by kernel_rfl

/-- What the workers wait for, behind so many scripts. -/
def wsTo (n : Nat) (ss : List (List O3)) (k : Nat) : List Wk := (ss.take k).map (fun s => Wk.new (valid n s)) ++ List.replicate (ss.length - k) (Wk.new [])
theorem wsTo_length (n : Nat) (ss : List (List O3)) (k : Nat) (h : k ≤ ss.length) : (wsTo n ss k).length = ss.length := by simp [wsTo]; omega
theorem wsTo_set (n : Nat) (ss : List (List O3)) (k : Nat) (s : List O3) (h : ss[k]? = some s) : (wsTo n ss k).set k (Wk.new (valid n s)) = wsTo n ss (k + 1) := by
  have hk := (List.getElem?_eq_some_iff.1 h).1
  unfold wsTo
  have e : ss.length - k = (ss.length - (k + 1)) + 1 := by omega
  have ht : ss.take (k + 1) = ss.take k ++ [s] := by rw [List.take_add_one, h]; rfl
  rw [ht, List.set_append_right _ _ (by simp; omega), e, List.replicate_succ]
  have e2 : k - ((ss.take k).map (fun s => Wk.new (valid n s))).length = 0 := by simp; omega
  rw [e2, List.set_cons_zero, List.map_append, List.append_assoc]
  rfl
theorem wsTo_get (n : Nat) (ss : List (List O3)) (k : Nat) (h : k < ss.length) : (wsTo n ss k)[k]? = some (Wk.new []) := by
  unfold wsTo
  rw [List.getElem?_append_right (by simp; omega), List.getElem?_replicate]
  rw [if_pos (by simp; omega)]
theorem wsTo_zero (n : Nat) (ss : List (List O3)) : wsTo n ss 0 = List.replicate ss.length (Wk.new []) := by simp [wsTo]
theorem wsTo_all (n : Nat) (ss : List (List O3)) : wsTo n ss ss.length = ss.map (fun s => Wk.new (valid n s)) := by simp [wsTo]

def waits (ws : List Wk) : List Bool := ws.map fun k => !k.left.isEmpty
def unders (ws : List Wk) : List Bool := ws.map (·.on)

/-- The game ahead of the first time. -/
structure PS (lo : Nat) (w : World) (G B gb cu : Nat) (psl : Value) (n : Nat) (ws : List Wk) : Prop where
  box : Box w G 84 [psl, .slice (some ⟨gb, 0, none⟩) n cu, .slice (some ⟨B, 0, none⟩) ws.length ws.length, .int .u64 (wd (waits ws) : Nat), .int .u64 0, .slice none 0 0, .int .i64 0]
  up : Own w gb (List.range n)
  rows : WRow lo w.heap.size w B ws
  gl : G < lo
  bl : B < lo
  ul : gb < lo
  gB : G ≠ B
  gu : G ≠ gb
  bu : B ≠ gb

end Go.Proofs.YthhcchdjeeigpaaDoor

namespace Go.Proofs.YthhcchdjeeigpaaDoor
open Go.RowKit
set_option linter.unusedVariables false
set_option linter.unusedSimpArgs false

/-- Behind the making of the game. -/
def SCut (w : World) (n W : Nat) (psl s5 : Value) (wx : World) : Prop := ∃ G B gb, s5 = .pointer (some ⟨G, 0, none⟩) ∧
  Box wx G 84 [psl, .slice (some ⟨gb, 0, none⟩) n n, .slice (some ⟨B, 0, none⟩) W W, .int .u64 0, .int .u64 0, .slice none 0 0, .int .i64 0] ∧
  Own wx gb (List.replicate n 0) ∧ RowsIn 13 wx B (List.replicate W wz) ∧ G ≠ B ∧ G ≠ gb ∧ B ≠ gb ∧ w.heap.size ≤ G ∧ w.heap.size ≤ B ∧ w.heap.size ≤ gb ∧ Below w.heap.size w wx

theorem Tryd.info3p : (Tryd.prog.info? 3).map (fun i => (i.zero, i.size, i.bytes)) = some (some (.int .i64 0), 1, 8) := by kernel_rfl

theorem own_made (w : World) (n : Nat) (t : TypeId) : Own (w.alloc (.cells (madeCells #[Value.int .i64 0] n) t)) w.heap.size (List.replicate n 0) := by
  have hb : Box (w.alloc (.cells (madeCells #[Value.int .i64 0] n) t)) w.heap.size t (madeCells #[Value.int .i64 0] n).toList := by
    have := Box.new w t (madeCells #[Value.int .i64 0] n).toList
    simpa using this
  rw [toList_madeCells_one] at hb
  refine ⟨by simp, fun i hi => ⟨?_, hb.frozen _⟩⟩
  rw [hb.cell]
  simp at hi
  simp [el, hi]

theorem RowsIn.alloc {k b : Nat} {w : World} {xs : List (List Value)} (h : RowsIn k w b xs) (o : Obj) : RowsIn k (w.alloc o) b xs := h.agree (Below.heap_alloc w o b h.1) (by simp)

theorem scut_a (w : World) (la lb : Nat) (psl : Value) (t1 t2 : TypeId) : SCut w la lb psl (.pointer (some ⟨w.heap.size + 1 + 1, 0, none⟩)) (((w.alloc (.cells (madeCells #[Value.int .i64 0] la) t1)).alloc (.cells (madeCells wz.toArray (lb * 13)) t2)).alloc (.cells #[psl, .slice (some ⟨w.heap.size, 0, none⟩) la la, .slice (some ⟨w.heap.size + 1, 0, none⟩) lb lb, .int .u64 0, .int .u64 0, .slice none 0 0, .int .i64 0] 84)).drew := by
  have b1 : Below w.heap.size w (w.alloc (.cells (madeCells #[Value.int .i64 0] la) t1)) := (Below.refl _ _).alloc (Nat.le_refl _) _
  have b2 := below_alloc b1 (Nat.le_refl _) (.cells (madeCells wz.toArray (lb * 13)) t2)
  have b3 := below_alloc b2 (Nat.le_refl _) (.cells #[psl, .slice (some ⟨w.heap.size, 0, none⟩) la la, .slice (some ⟨w.heap.size + 1, 0, none⟩) lb lb, .int .u64 0, .int .u64 0, .slice none 0 0, .int .i64 0] 84)
  have h2 := RowsIn.made (k := 13) (w.alloc (.cells (madeCells #[Value.int .i64 0] la) t1)) wz lb t2 rfl
  have h3 := Box.new ((w.alloc (.cells (madeCells #[Value.int .i64 0] la) t1)).alloc (.cells (madeCells wz.toArray (lb * 13)) t2)) 84 [psl, .slice (some ⟨w.heap.size, 0, none⟩) la la, .slice (some ⟨w.heap.size + 1, 0, none⟩) lb lb, .int .u64 0, .int .u64 0, .slice none 0 0, .int .i64 0]
  rw [World.size_alloc] at h2 h3
  rw [World.size_alloc] at h3
  exact ⟨_, w.heap.size + 1, w.heap.size, rfl, h3.drew, ((own_made w la t1).alloc _).alloc _, h2.alloc _, by omega, by omega, by omega, by omega, by omega, by omega, b3.drew⟩
theorem scut_b (w : World) (la lb : Nat) (psl : Value) (t1 t2 : TypeId) : SCut w la lb psl (.pointer (some ⟨w.heap.size + 1 + 1, 0, none⟩)) (((w.alloc (.cells (madeCells wz.toArray (lb * 13)) t2)).alloc (.cells (madeCells #[Value.int .i64 0] la) t1)).alloc (.cells #[psl, .slice (some ⟨w.heap.size + 1, 0, none⟩) la la, .slice (some ⟨w.heap.size, 0, none⟩) lb lb, .int .u64 0, .int .u64 0, .slice none 0 0, .int .i64 0] 84)).drew := by
  have b1 : Below w.heap.size w (w.alloc (.cells (madeCells wz.toArray (lb * 13)) t2)) := (Below.refl _ _).alloc (Nat.le_refl _) _
  have b2 := below_alloc b1 (Nat.le_refl _) (.cells (madeCells #[Value.int .i64 0] la) t1)
  have b3 := below_alloc b2 (Nat.le_refl _) (.cells #[psl, .slice (some ⟨w.heap.size + 1, 0, none⟩) la la, .slice (some ⟨w.heap.size, 0, none⟩) lb lb, .int .u64 0, .int .u64 0, .slice none 0 0, .int .i64 0] 84)
  have h1 := RowsIn.made (k := 13) w wz lb t2 rfl
  have h2 := own_made (w.alloc (.cells (madeCells wz.toArray (lb * 13)) t2)) la t1
  have h3 := Box.new ((w.alloc (.cells (madeCells wz.toArray (lb * 13)) t2)).alloc (.cells (madeCells #[Value.int .i64 0] la) t1)) 84 [psl, .slice (some ⟨w.heap.size + 1, 0, none⟩) la la, .slice (some ⟨w.heap.size, 0, none⟩) lb lb, .int .u64 0, .int .u64 0, .slice none 0 0, .int .i64 0]
  rw [World.size_alloc] at h2 h3
  rw [World.size_alloc] at h3
  exact ⟨_, w.heap.size, w.heap.size + 1, rfl, h3.drew, h2.alloc _, (h1.alloc _).alloc _, by omega, by omega, by omega, by omega, by omega, by omega, b3.drew⟩

section
variable {w w' : World} {b : Nat} {t : TypeId} {c0 c1 c2 c3 c4 c5 c6 : Value}
theorem Box.seven (h : Box w b t [c0, c1, c2, c3, c4, c5, c6]) : w.cell? ⟨b, 0, none⟩ = some c0 ∧ w.cell? ⟨b, 1, none⟩ = some c1 ∧ w.cell? ⟨b, 2, none⟩ = some c2 ∧ w.cell? ⟨b, 3, none⟩ = some c3 ∧ w.cell? ⟨b, 4, none⟩ = some c4 ∧ w.cell? ⟨b, 5, none⟩ = some c5 ∧ w.cell? ⟨b, 6, none⟩ = some c6 :=
  ⟨h.cell 0, h.cell 1, h.cell 2, h.cell 3, h.cell 4, h.cell 5, h.cell 6⟩
theorem Box.sevenf (h : Box w b t [c0, c1, c2, c3, c4, c5, c6]) : w.frozen? ⟨b, 0, none⟩ = false ∧ w.frozen? ⟨b, 1, none⟩ = false ∧ w.frozen? ⟨b, 2, none⟩ = false ∧ w.frozen? ⟨b, 3, none⟩ = false ∧ w.frozen? ⟨b, 4, none⟩ = false ∧ w.frozen? ⟨b, 5, none⟩ = false ∧ w.frozen? ⟨b, 6, none⟩ = false :=
  ⟨h.frozen 0, h.frozen 1, h.frozen 2, h.frozen 3, h.frozen 4, h.frozen 5, h.frozen 6⟩
end

theorem waits_to (n : Nat) (ss : List (List O3)) (k : Nat) (s : List O3) (h : ss[k]? = some s) : waits (wsTo n ss (k + 1)) = (waits (wsTo n ss k)).set k (!(valid n s).isEmpty) := by
  rw [← wsTo_set n ss k s h]
  unfold waits
  rw [List.map_set]
  rfl
theorem waits_get (n : Nat) (ss : List (List O3)) (k : Nat) (h : k < ss.length) : (waits (wsTo n ss k))[k]? = some false := by
  unfold waits
  rw [List.getElem?_map, wsTo_get n ss k h]; rfl
theorem set_same {α : Type} {l : List α} {i : Nat} {a : α} (h : l[i]? = some a) : l.set i a = l := by
  apply List.ext_getElem?
  intro j
  rw [List.getElem?_set]
  by_cases e : i = j
  · subst e; rw [if_pos rfl, h, if_pos (List.getElem?_eq_some_iff.1 h).1]
  · rw [if_neg e]

set_option maxRecDepth 100000 in
set_option maxHeartbeats 2000000 in
theorem start_any (a b : Option Addr) (la ca lb cb : Nat) (ss : List (List O3)) (w : World) {hi : Nat} (hs : Scr hi w b lb ss) (hhi : hi ≤ w.heap.size) (hm : la ≤ 4096) (hm2 : lb ≤ 64) (ho : opsN ss ≤ 4096) :
    Calls Tryd.prog 34 #[.slice a la ca, .slice b lb cb] w fun e w' => ∃ lo G B gb, e = .returned (.pointer (some ⟨G, 0, none⟩)) ∧ w.heap.size ≤ G ∧ w.heap.size ≤ B ∧ w.heap.size ≤ gb ∧ lo ≤ w'.heap.size ∧ PS lo w' G B gb la (.slice a la ca) la (ss.map fun s => Wk.new (valid la s)) ∧ Below w.heap.size w w' := by
  obtain ⟨i0, hi0, hz0, hz1, hz2⟩ := info_parts Tryd.info3p
  obtain ⟨i1, hi1, hy0, hy1, hy2⟩ := info_parts Tryd.pworkInfo
  obtain ⟨mk1, hmk1⟩ : ∃ m, m = madeCells #[Value.int .i64 0] la := ⟨_, rfl⟩
  obtain ⟨mk2, hmk2⟩ : ∃ m, m = madeCells wz.toArray (lb * 13) := ⟨_, rfl⟩
  have hmake1 : ∀ W, Sem.run Tryd.prog (Instr.makeSlice 22 (.int .i64 (la : Int)) (.int .i64 (la : Int))) W = .ok (.slice (some ⟨W.heap.size, 0, none⟩) la la) (W.alloc (.cells mk1 3)) := fun W => by
    have := run_makeSlice (P := Tryd.prog) (w := W) 22 3 i0 (.int .i64 0) Tryd.underlying22 hi0 hz0 .i64 .i64 (la : Int) (la : Int) (by omega) (Int.le_refl _) (by rw [hz1]; omega) (by rw [hz2]; omega) (by omega)
    rw [hz1] at this
    rw [hmk1]
    simpa [Value.cells] using this
  have hmake2 : ∀ W, Sem.run Tryd.prog (Instr.makeSlice 80 (.int .i64 (lb : Int)) (.int .i64 (lb : Int))) W = .ok (.slice (some ⟨W.heap.size, 0, none⟩) lb lb) (W.alloc (.cells mk2 127)) := fun W => by
    have := run_makeSlice (P := Tryd.prog) (w := W) 80 127 i1 _ Tryd.underlying80 hi1 hy0 .i64 .i64 (lb : Int) (lb : Int) (by omega) (Int.le_refl _) (by rw [hy1]; omega) (by rw [hy2]; omega) (by omega)
    rw [hy1] at this
    rw [hmk2]
    simpa [Value.cells, wz] using this
  have HMK1 := Lib.hid hmk1
  have HMK2 := Lib.hid hmk2
  have HS := Lib.hid hs
  have HO := Lib.hid ho
  clear hmk1 hmk2 hs ho
  go_enter Tryd.func34, Tryd.ntmps34
  go_wp2_with fail
  go_cut [5] from 10 to 18 (fun s5 wx => SCut w la lb (.slice a la ca) s5 wx)
  case first =>
    go_region
    all_goals (go_wp2_with fail; go_meet)
    · rw [HMK1.out, HMK2.out]; exact scut_a w la lb _ _ _
    · rw [HMK1.out, HMK2.out]; exact scut_b w la lb _ _ _
  case rest =>
    obtain ⟨G, B, gb, rfl, HBX, HOW, HRW, n1, n2, n3, l1, l2, l3, hb⟩ := hcut
    have HG := Lib.hid HBX
    have HW := Lib.hid HOW
    have HR := Lib.hid HRW
    have HB := Lib.hid hb
    have hG := HBX.lt
    obtain ⟨_, _, _, _, _, _, _⟩ := HBX.seven
    clear HBX HOW HRW hb hmake1 hmake2
    go_wp2_with fail
    go_loopw [24] (fun iv wr => ∃ (k : Nat) (p : List Nat), k ≤ la ∧ iv = .int .i64 (k : Int) ∧ p.length = la ∧ Hid (∀ i, i < k → el p i = i) ∧ Own wr gb p ∧ Two gb gb wc wr) (fun iv _ => la - (intOf iv).toNat)
    case atStart => exact ⟨0, _, Nat.zero_le _, rfl, by simp, fun i hi => absurd hi (Nat.not_lt_zero _), HW.out, Two.refl _ _ _⟩
    case round =>
      obtain ⟨k, p, hk, rfl, hpl, hp, ho, ht⟩ := hrel
      have HT := Lib.hid ht
      have HG2 := Lib.hid (ht.box HG.out n2 n2)
      have hG2 := HG2.out.lt
      obtain ⟨_, _, _, _, _, _, _⟩ := HG2.out.seven
      have hs := ht.size
      clear ht
      by_cases hlt : k < la
      · obtain ⟨c1, f1⟩ := ho.2 k (by omega)
        have hg1 := ho.1
        have HO2 := Lib.hid (ho.put (i := k) (v := k) (by omega))
        have hk0 : (0 : Int) ≤ (k : Int) := by omega
        have hk1 : (k : Int) < (la : Int) := by omega
        generalize el p k = z at c1
        clear ho
        go_wp2_with fail
        go_roundw
        case rel =>
          refine ⟨k + 1, _, by omega, by go_num, by simpa using hpl, fun i hi => ?_, HO2.out, HT.out.setCell (p := ⟨gb, k, none⟩) (.inl rfl) _⟩
          by_cases e : k = i
          · subst e; exact el_set_self (by omega)
          · rw [el_set_other e]; exact hp.out i (by omega)
        case measure => simp [intOf]; omega
      · obtain rfl : k = la := by omega
        have hpe : p = List.range k := ext_el (by simpa using hpl) fun i hi => by rw [hp.out i (by omega), el_range (by omega)]
        subst hpe
        have HO2 := Lib.hid ho
        have HR2 := Lib.hid (HR.out.agree (HT.out.block B HR.out.1 n3 n3) HT.out.size)
        have HB2 := Lib.hid (HB.out.trans (HT.out.below (Nat.le_trans l3 (by have := HW.out.1; omega)) l3 l3))
        have HSL : Hid (ss.length = lb) := HS.out.1
        obtain ⟨L0, hL0⟩ : ∃ L0, L0 = wr.heap.size := ⟨_, rfl⟩
        have gL : G < L0 := by have := HG2.out.lt; omega
        have bL : B < L0 := by have := HR2.out.1; omega
        have uL : gb < L0 := by have := HO2.out.1; omega
        have wL : w.heap.size ≤ L0 := by have := HB2.out.size; omega
        have HL0 := Lib.hid hL0
        clear ho hp hpl hL0
        go_wp2_with fail
        go_loopw [37] (fun iv wx => ∃ q : Nat, q ≤ lb ∧ iv = .int .i64 (q : Int) ∧ Hid (Box wx G 84 [.slice a k ca, .slice (some ⟨gb, 0, none⟩) k k, .slice (some ⟨B, 0, none⟩) lb lb, .int .u64 (wd (waits (wsTo k ss q)) : Nat), .int .u64 0, .slice none 0 0, .int .i64 0]) ∧ Hid (Own wx gb (List.range k)) ∧ Hid (WRow L0 wx.heap.size wx B (wsTo k ss q)) ∧ Below w.heap.size w wx ∧ L0 ≤ wx.heap.size) (fun iv _ => lb - (intOf iv).toNat)
        case atStart =>
          refine ⟨0, Nat.zero_le _, rfl, ?_, HO2.out, ?_, HB2.out, Nat.le_of_eq HL0.out⟩
          · have e : wd (waits (wsTo k ss 0)) = 0 := by rw [wsTo_zero]; unfold waits; rw [List.map_replicate]; exact wd_replicate_false _
            show Box _ _ _ _
            rw [e]; exact HG2.out
          · refine ⟨_, HR2.out, by rw [wsTo_zero, HSL.out]; simp, fun i q hq => ?_⟩
            rw [wsTo_zero, List.getElem?_replicate] at hq
            split at hq
            · cases hq
              refine ⟨.slice none 0 0, by rw [List.getElem?_replicate, if_pos (by rw [← HSL.out]; assumption)]; rfl, none, 0, rfl, Nat.le_refl _, rfl, .inl rfl⟩
            · cases hq
        case round =>
          obtain ⟨q, hq, rfl, HGX, HOX, HRX, hbx, hsx⟩ := hrel
          have hGx := HGX.out.lt
          obtain ⟨_, _, _, _, _, _, _⟩ := HGX.out.seven
          have fr3 := HGX.out.frozen 3
          by_cases hlq : q < lb
          · obtain ⟨bb, off, rfl, hbb, hc⟩ := HS.out.2.resolve_left (by omega)
            obtain ⟨s, hsq⟩ : ∃ s, ss[q]? = some s := ⟨_, List.getElem?_eq_getElem (by have := HSL.out; omega)⟩
            obtain ⟨a', c', h3, h4⟩ := hc q s hsq
            have hsl : s.length ≤ 4096 := by have := opsN_take ss q s hsq; have := opsN_le ss (q + 1); have := HO.out; omega
            have cS := (hbx.cell (p := ⟨bb, off + q, none⟩) (show bb < w.heap.size by omega)).trans h3
            have HT1 := Lib.hid (tasks_any a' s.length c' s k wr (h4.below hbx hhi) (Nat.le_trans hhi hbx.size) (by omega))
            have hbw : bb < wr.heap.size := by omega
            have HSQ := Lib.hid hsq
            have HWT := Lib.hid (waits_to k ss q s hsq)
            have hwg := waits_get k ss q (by have := HSL.out; omega)
            have hwl : (waits (wsTo k ss q)).length = lb := by unfold waits; rw [List.length_map, wsTo_length _ _ _ (by have := HSL.out; omega), HSL.out]
            have HWG := Lib.hid hwg
            have HWL := Lib.hid hwl
            have HBX := Lib.hid hbx
            have hq0 : (0 : Int) ≤ (q : Int) := by omega
            have hq1 : (q : Int) < (lb : Int) := by omega
            generalize s.length = m0 at *
            clear hc h3 h4 hsq hwg hwl hbx
            go_wp2_with fail
            refine (HT1.out).mono ?_
            rintro e w3 ⟨v, rfl, hown, hb3⟩
            obtain ⟨a2, c2, rfl, hcap2, hsl2⟩ := Sl.of_owns ocells_length hown rfl
            have s3 := hb3.size
            have HG3 := Lib.hid (HGX.out.below hb3)
            have hG3 := HG3.out.lt
            have HO3 := Lib.hid (HOX.out.below hb3 HOX.out.1)
            have HR3 : Hid (WRow L0 wr.heap.size w3 B (wsTo k ss q)) := HRX.out.agree (fun b hb' => hb3.block b (by rcases hb' with rfl | h <;> omega)) s3
            have HB3 := Lib.hid (HBX.out.trans (hb3.mono HBX.out.size))
            have hRest : Rest L0 w3.heap.size w3 (.slice a2 (valid k s).length c2) (valid k s) := ⟨_, _, rfl, hcap2, hsl2.mono hsx (Nat.le_refl _)⟩
            obtain ⟨a9, c9, _, _, hpart⟩ := WRow.part (HR3.out.mono s3) (wsTo_get k ss q (by have := HSL.out; omega))
            obtain ⟨_, fB⟩ := hpart.cell 0 _ rfl
            obtain ⟨cB, _⟩ := hpart.cell 0 _ rfl
            simp only [Nat.add_zero] at fB cB
            have bL3 : B < w3.heap.size := by omega
            have HPT := Lib.hid hpart
            have HRE := Lib.hid hRest
            obtain ⟨_, _, _, _, _, _, _⟩ := HG3.out.seven
            have fr3 := HG3.out.frozen 3
            have HWS := wsTo_set k ss q s HSQ.out
            have HWSS := Lib.hid HWS
            clear hown hb3 hsl2 hpart hRest HWS hcap2
            by_cases hv : (valid k s).length = 0
            · have hv1 : (valid k s).isEmpty = true := by simpa using List.eq_nil_of_length_eq_zero hv
              have HE : Hid (waits (wsTo k ss (q + 1)) = waits (wsTo k ss q)) := by show _ = _; rw [HWT.out, hv1]; exact set_same HWG.out
              have HV := Lib.hid hv
              rw [hv]
              clear hv hv1
              go_wp2_with fail
              go_roundw
              case rel =>
                have hr : Rest L0 w3.heap.size w3 (.slice a2 0 c2) (valid k s) := by have := HRE.out; rw [HV.out] at this; exact this
                refine ⟨q + 1, by omega, by go_num, ?_, HO3.out.setOther (a := ⟨B, q * 13, none⟩) (Ne.symm n3) _, ?_, HB3.out.setCell (p := ⟨B, q * 13, none⟩) l2 _, by simp; omega⟩
                · show Box _ _ _ _
                  rw [HE.out]; exact HG3.out.setOther (a := ⟨B, q * 13, none⟩) n1 _
                · show WRow _ _ _ _ _
                  rw [← HWSS.out, World.size_setCell]
                  exact (HPT.out.put (j := 0) (.inl bL) (by omega) (.slice a2 0 c2)).row (k := Wk.new (valid k s)) rfl (hr.agree fun b hl hh => Below.heap_setCell w3 _ _ b (by show b ≠ B; omega))
              case measure => simp [intOf]; omega
            · have hv1 : (valid k s).isEmpty = false := by cases h : valid k s with
                | nil => rw [h] at hv; exact absurd rfl hv
                | cons _ _ => rfl
              have HE : Hid (waits (wsTo k ss (q + 1)) = (waits (wsTo k ss q)).set q true) := by show _ = _; rw [HWT.out, hv1]; rfl
              have hv2 : 0 < (valid k s).length := by omega
              generalize hm1 : (valid k s).length = m1 at *
              have HM1 := Lib.hid hm1
              clear hv hv1 hm1
              go_wp2_with fail
              refine (with_any (waits (wsTo k ss q)) q _ (by rw [HWL.out]; exact hm2) (by rw [HWL.out]; exact hlq) _ rfl).mono ?_
              rintro e w' ⟨rfl, rfl⟩
              go_wp2_with fail
              go_roundw
              case rel =>
                refine ⟨q + 1, by omega, by go_num, ?_, (HO3.out.setOther (a := ⟨G, 3, none⟩) (Ne.symm n2) _).setOther (a := ⟨B, q * 13, none⟩) (Ne.symm n3) _, ?_, (HB3.out.setCell (p := ⟨G, 3, none⟩) l1 _).setCell (p := ⟨B, q * 13, none⟩) l2 _, by simp; omega⟩
                · show Box _ _ _ _
                  rw [HE.out]; exact (HG3.out.set 3 _).setOther (a := ⟨B, q * 13, none⟩) n1 _
                · show WRow _ _ _ _ _
                  rw [← HWSS.out, World.size_setCell, World.size_setCell]
                  have hp := HPT.out.agree (w' := w3.setCell ⟨G, 3, none⟩ (.int .u64 (wd ((waits (wsTo k ss q)).set q true) : Nat))) (fun b hb' => Below.heap_setCell w3 _ _ b (by show b ≠ G; rcases hb' with rfl | h <;> omega)) (by simp)
                  refine (hp.put (j := 0) (.inl bL) (by omega) (.slice a2 m1 c2)).row (k := Wk.new (valid k s)) rfl ((HRE.out.agree (w' := w3.setCell ⟨G, 3, none⟩ (.int .u64 (wd ((waits (wsTo k ss q)).set q true) : Nat))) fun b hl hh => Below.heap_setCell w3 _ _ b (by show b ≠ G; omega)).agree fun b hl hh => Below.heap_setCell _ _ _ b (by show b ≠ B; omega))
              case measure => simp [intOf]; omega
          · obtain rfl : q = lb := by omega
            go_wp2_with fail
            go_ret
            have e : wsTo k ss q = ss.map (fun s => Wk.new (valid k s)) := by rw [← HSL.out]; exact wsTo_all k ss
            have HGY := HGX.out
            have HRY := HRX.out
            rw [e] at HGY HRY
            have hl2 : (ss.map (fun s => Wk.new (valid k s))).length = q := by rw [List.length_map, HSL.out]
            exact ⟨L0, G, B, gb, rfl, l1, l2, l3, hsx, ⟨by rw [hl2]; exact HGY, HOX.out, HRY, gL, bL, uL, n1, n2, n3⟩, hbx⟩

end Go.Proofs.YthhcchdjeeigpaaDoor

namespace Go.Proofs.YthhcchdjeeigpaaDoor
open Go.RowKit
set_option linter.unusedVariables false
set_option linter.unusedSimpArgs false

/-- The game in memory. -/
structure PG (w : World) (lo hi C e0 G B gb cu : Nat) (ev psl : Value) (n : Nat) (g : Gm) : Prop where
  box : Box w G 84 [psl, .slice (some ⟨gb, 0, none⟩) n cu, .slice (some ⟨B, 0, none⟩) g.ws.length g.ws.length, .int .u64 (wd (waits g.ws) : Nat), .int .u64 (wd (unders g.ws) : Nat), ev, .int .i64 (g.tm : Int)]
  up : Own w gb g.up
  rows : WRow lo hi w B g.ws
  evs : w.ownsRow e0 42 8 ev g.l.length (cellsE g.l)
  gl : G < lo
  bl : B < lo
  lh : lo ≤ hi
  hc : hi ≤ C
  ce : C < e0
  es : e0 ≤ w.heap.size
  gB : G ≠ B
  ug : gb ≠ G
  ub : gb ≠ B
  uC : gb ≠ C
  ue : ∀ q, ev.ownBlock = some q → q ≠ gb
  w64 : g.ws.length ≤ 64

theorem PG.two {w w' : World} {lo hi C e0 G B gb cu : Nat} {ev psl : Value} {n : Nat} {g : Gm} (h : PG w lo hi C e0 G B gb cu ev psl n g) {b : Nat} (ht : Two b b w w') (hb : b = C) : PG w' lo hi C e0 G B gb cu ev psl n g := by
  subst hb
  have hgl := h.gl
  have hbl := h.bl
  have hlh := h.lh
  have hhc := h.hc
  have hce := h.ce
  refine ⟨ht.box h.box (by omega) (by omega), ht.own h.up h.uC h.uC, h.rows.agree (fun k hk => ht.block k (by have := h.es; rcases hk with rfl | hk <;> omega) (by rcases hk with rfl | hk <;> omega) (by rcases hk with rfl | hk <;> omega)) ht.size, ?_, h.gl, h.bl, h.lh, h.hc, h.ce, Nat.le_trans h.es ht.size, h.gB, h.ug, h.ub, h.uC, h.ue, h.w64⟩
  obtain ⟨h1, h2 | ⟨q, cap, cur, rfl, hb', hq, r⟩⟩ := h.evs
  · exact ⟨h1, .inl h2⟩
  · exact ⟨h1, .inr ⟨q, cap, cur, rfl, hb', (ht.block q (Array.getElem?_eq_some_iff.1 hq).1 (by omega) (by omega)).trans hq, r⟩⟩

/-- What a call of the game's may change. -/
structure Chg (e0 G B : Nat) (w w' : World) : Prop where
  os : w'.os = w.os
  tape : w'.tape = w.tape
  output : w'.output = w.output
  size : w.heap.size ≤ w'.heap.size
  block : ∀ k, k < e0 → k ≠ G → k ≠ B → w'.heap[k]? = w.heap[k]?
theorem Chg.refl (e0 G B : Nat) (w : World) : Chg e0 G B w w := ⟨rfl, rfl, rfl, Nat.le_refl _, fun _ _ _ _ => rfl⟩
theorem Chg.trans {e0 G B : Nat} {a b c : World} (h : Chg e0 G B a b) (k : Chg e0 G B b c) : Chg e0 G B a c := ⟨k.os.trans h.os, k.tape.trans h.tape, k.output.trans h.output, Nat.le_trans h.size k.size, fun i h1 h2 h3 => (k.block i h1 h2 h3).trans (h.block i h1 h2 h3)⟩
theorem Chg.of_two {e0 G B : Nat} {w w' : World} (h : Two G B w w') (he : e0 ≤ w.heap.size) : Chg e0 G B w w' := ⟨h.os, h.tape, h.output, h.size, fun k h1 h2 h3 => h.block k (by omega) h2 h3⟩
theorem Chg.of_below {e0 G B : Nat} {w w' : World} (h : Below w.heap.size w w') (he : e0 ≤ w.heap.size) : Chg e0 G B w w' := ⟨h.os, h.tape, h.output, h.size, fun k h1 _ _ => h.block k (by omega)⟩
theorem Chg.below {e0 G B b0 : Nat} {w w' : World} (h : Chg e0 G B w w') (h0 : b0 ≤ e0) (h1 : b0 ≤ G) (h2 : b0 ≤ B) : Below b0 w w' := ⟨h.os, h.tape, h.output, h.size, fun k hk => h.block k (by omega) (by omega) (by omega)⟩

theorem Gm.wk_get {g : Gm} {i : Nat} (h : i < g.ws.length) : g.ws[i]? = some (g.wk i) := by
  unfold Gm.wk
  rw [List.getD_eq_getElem?_getD, List.getElem?_eq_getElem h]; rfl

theorem waits_set (ws : List Wk) (i : Nat) (k : Wk) : waits (ws.set i k) = (waits ws).set i (!k.left.isEmpty) := by unfold waits; rw [List.map_set]
theorem unders_set (ws : List Wk) (i : Nat) (k : Wk) : unders (ws.set i k) = (unders ws).set i k.on := by unfold unders; rw [List.map_set]
theorem waits_length (ws : List Wk) : (waits ws).length = ws.length := by unfold waits; simp
theorem unders_length (ws : List Wk) : (unders ws).length = ws.length := by unfold unders; simp

theorem PG.upd {w w' : World} {lo hi C e0 G B gb cu : Nat} {ev psl : Value} {n : Nat} {g g' : Gm} (h : PG w lo hi C e0 G B gb cu ev psl n g) (ht : Two G B w w')
    (hb : Box w' G 84 [psl, .slice (some ⟨gb, 0, none⟩) n cu, .slice (some ⟨B, 0, none⟩) g'.ws.length g'.ws.length, .int .u64 (wd (waits g'.ws) : Nat), .int .u64 (wd (unders g'.ws) : Nat), ev, .int .i64 (g'.tm : Int)])
    (hr : WRow lo hi w' B g'.ws) (hu : g'.up = g.up) (hl : g'.l = g.l) (hw : g'.ws.length = g.ws.length) : PG w' lo hi C e0 G B gb cu ev psl n g' := by
  have hgl := h.gl
  have hbl := h.bl
  have hlh := h.lh
  have hhc := h.hc
  have hce := h.ce
  refine ⟨hb, by rw [hu]; exact h.up.agree (ht.block gb h.up.1 h.ug h.ub) ht.size, hr, ?_, h.gl, h.bl, h.lh, h.hc, h.ce, Nat.le_trans h.es ht.size, h.gB, h.ug, h.ub, h.uC, h.ue, by rw [hw]; exact h.w64⟩
  rw [hl]
  obtain ⟨h1, h2 | ⟨q, cap, cur, rfl, hb', hq, r⟩⟩ := h.evs
  · exact ⟨h1, .inl h2⟩
  · exact ⟨h1, .inr ⟨q, cap, cur, rfl, hb', (ht.block q (Array.getElem?_eq_some_iff.1 hq).1 (by omega) (by omega)).trans hq, r⟩⟩
set_option maxRecDepth 100000 in
set_option maxHeartbeats 4000000 in
theorem begin_w (w : World) (lo hi C e0 G B gb cu : Nat) (ev psl : Value) (n : Nat) (g : Gm) (i : Nat) (o : Opn) (r : List Opn) (H : PG w lo hi C e0 G B gb cu ev psl n g) (hi' : i < g.ws.length) (hon : (g.wk i).on = false) (hl : (g.wk i).left = o :: r) (hok : o.ok n) :
    Calls Tryd.prog 59 #[.pointer (some ⟨G, 0, none⟩), .int .i64 (i : Int)] w fun e w' => e = .returned (.tuple #[]) ∧ PG w' lo hi C e0 G B gb cu ev psl n { g with ws := g.ws.set i ((g.wk i).beg g.tm) } ∧ Two G B w w' := by
  have hG := H.box.lt
  have hk := Gm.wk_get hi'
  obtain ⟨a, c, hcap, hsl, hpart⟩ := H.rows.part hk
  have hB : B < w.heap.size := by obtain ⟨cs, h1, _⟩ := H.rows; exact h1.1
  rw [hl] at hsl hpart hcap
  obtain ⟨rb, ro, rfl, hr1, hr2, hat⟩ := hsl.at (by simp)
  have hlen : (o :: r).length = r.length + 1 := rfl
  rw [hlen] at hpart hsl hcap
  obtain ⟨m, hm⟩ : ∃ m, r.length = m := ⟨_, rfl⟩
  rw [hm] at hpart
  have T := hat 0 (ocells o) rfl
  have t0 := T 0 _ rfl
  have t1 := T 1 _ rfl
  have t2 := T 2 _ rfl
  have t3 := T 3 _ rfl
  have t4 := T 4 _ rfl
  have t5 := T 5 _ rfl
  have t6 := T 6 _ rfl
  have t7 := T 7 _ rfl
  have t8 := T 8 _ rfl
  have t9 := T 9 _ rfl
  simp only [Nat.zero_mul, Nat.add_zero] at t0 t1 t2 t3 t4 t5 t6 t7 t8 t9
  have hrw : rb < w.heap.size := by have := H.es; have := H.ce; have := H.hc; omega
  obtain ⟨j, hj⟩ : ∃ j, j = i * 13 := ⟨_, rfl⟩
  have d0 := hpart.cell 0 _ rfl
  have d1 := hpart.cell 1 _ rfl
  have d2 := hpart.cell 2 _ rfl
  have d3 := hpart.cell 3 _ rfl
  have d4 := hpart.cell 4 _ rfl
  have d5 := hpart.cell 5 _ rfl
  have d6 := hpart.cell 6 _ rfl
  have d7 := hpart.cell 7 _ rfl
  have d8 := hpart.cell 8 _ rfl
  have d9 := hpart.cell 9 _ rfl
  have d10 := hpart.cell 10 _ rfl
  have d11 := hpart.cell 11 _ rfl
  rw [← hj] at d0 d1 d2 d3 d4 d5 d6 d7 d8 d9 d10 d11
  simp only [Nat.add_zero] at d0
  obtain ⟨d0, f0⟩ := d0
  obtain ⟨_, f1⟩ := d1
  obtain ⟨_, f2⟩ := d2
  obtain ⟨_, f3⟩ := d3
  obtain ⟨_, f4⟩ := d4
  obtain ⟨_, f5⟩ := d5
  obtain ⟨_, f6⟩ := d6
  obtain ⟨_, f7⟩ := d7
  obtain ⟨_, f8⟩ := d8
  obtain ⟨_, f9⟩ := d9
  obtain ⟨_, f10⟩ := d10
  obtain ⟨_, f11⟩ := d11
  obtain ⟨W, hW⟩ : ∃ W, g.ws.length = W := ⟨_, rfl⟩
  obtain ⟨wt, hwt⟩ : ∃ x, wd (waits g.ws) = x := ⟨_, rfl⟩
  obtain ⟨un, hun⟩ : ∃ x, wd (unders g.ws) = x := ⟨_, rfl⟩
  have hbox := H.box
  rw [hW, hwt, hun] at hbox
  obtain ⟨_, _, _, _, _, _, _⟩ := hbox.seven
  obtain ⟨_, _, _, _, _, _, _⟩ := hbox.sevenf
  have hiW : i < W := by omega
  have hi0 : (0 : Int) ≤ (i : Int) := by omega
  have hi1 : (i : Int) < (W : Int) := by omega
  have gB := H.gB
  have gB' := Ne.symm gB
  have T2 : ∀ W0, Sem.run Tryd.prog (Instr.indexAt 80 (.slice (some ⟨B, 0, none⟩) W W) (.int .i64 (i : Int))) W0 = .ok (.pointer (some ⟨B, j, none⟩)) W0 := fun W0 => by rw [hj]; go_simp
  have hrB : rb ≠ B := by have := H.bl; omega
  have hrG : rb ≠ G := by have := H.gl; omega
  have HW1 := fun w0 => with_any (unders g.ws) i w0 (by rw [unders_length]; exact H.w64) (by rw [unders_length]; exact hi') _ rfl
  have HW2 := fun w0 => without_any (waits g.ws) i w0 (by rw [waits_length]; exact H.w64) (by rw [waits_length]; exact hi') _ rfl
  rw [hun] at HW1
  rw [hwt] at HW2
  have HH := Lib.hid H
  have HP := Lib.hid hpart
  have HJ := Lib.hid hj
  have HHW := Lib.hid hW
  have HWT := Lib.hid hwt
  have HUN := Lib.hid hun
  have HSL := Lib.hid hsl
  have HM := Lib.hid hm
  have HCAP := Lib.hid hcap
  have HAT := Lib.hid hat
  have HW1 := Lib.hid HW1
  have HW2 := Lib.hid HW2
  clear H hpart T hat hsl hj hW hwt hun hbox hm hcap
  go_enter Tryd.func59, Tryd.ntmps59
  go_wp2_with fail
  go_region
  obtain ⟨ra, hra⟩ : ∃ ra : Option Addr, (if c = 1 then some (⟨rb, ro, none⟩ : Addr) else some ⟨rb, ro + 10, none⟩) = ra := ⟨_, rfl⟩
  rw [hra]
  have HRA := Lib.hid hra
  clear hra
  go_wp2_with (first | (go_at_call 55; (with_reducible refine (HW1.out _).mono ?_); rintro e w' ⟨rfl, rfl⟩) | (go_at_call 79; (with_reducible refine (HW2.out _).mono ?_); rintro e w' ⟨rfl, rfl⟩))
  all_goals go_end0
  all_goals refine ⟨rfl, ?_⟩
  all_goals rw [HJ.out]
  all_goals (
    have hBl : B < lo ∨ hi ≤ B := .inl HH.out.bl
    have hbeg : (g.wk i).beg g.tm = ⟨r, true, o.tk, o.y, g.tm, (g.wk i).mt⟩ := by unfold Wk.beg; rw [hon, hl]; rfl
    have hch := ((((((((((((HP.out.put (j := 1) hBl (by omega) (.int .i64 (o.k : Int))).put (j := 2) hBl (by omega) (.int .i64 (o.x : Int))).put (j := 3) hBl (by omega) (.int .i64 o.y)).put (j := 4) hBl (by omega) (.int .i64 1)).put (j := 5) hBl (by omega) (.int .i64 (o.x : Int))).put (j := 6) hBl (by omega) (.int .i64 o.y)).put (j := 7) hBl (by omega) (.int .i64 0)).put (j := 8) hBl (by omega) (.int .i64 0)).put (j := 9) hBl (by omega) (.bool false)).put (j := 10) hBl (by omega) (.int .i64 0)).put (j := 0) hBl (by omega) (.slice ra m (c - 1))).put (j := 11) hBl (by omega) (.int .i64 (g.tm : Int)))
    have hrest : Rest lo hi w (.slice ra m (c - 1)) r := by
      refine ⟨ra, c - 1, by rw [HM.out], by have := HCAP.out; have := HM.out; omega, by simp, ?_⟩
      by_cases h0 : r.length = 0
      · exact .inl h0
      · refine .inr ⟨rb, ro + 10, ?_, hr1, hr2, HAT.out.tail⟩
        rw [← HRA.out, if_neg (by have := HCAP.out; have := HM.out; omega)]
    have ht : Two B B w _ := ((((((((((((Two.refl B B w).set B (i * 13 + 1) (.inl rfl) (.int .i64 (o.k : Int))).set B (i * 13 + 2) (.inl rfl) (.int .i64 (o.x : Int))).set B (i * 13 + 3) (.inl rfl) (.int .i64 o.y)).set B (i * 13 + 4) (.inl rfl) (.int .i64 1)).set B (i * 13 + 5) (.inl rfl) (.int .i64 (o.x : Int))).set B (i * 13 + 6) (.inl rfl) (.int .i64 o.y)).set B (i * 13 + 7) (.inl rfl) (.int .i64 0)).set B (i * 13 + 8) (.inl rfl) (.int .i64 0)).set B (i * 13 + 9) (.inl rfl) (.bool false)).set B (i * 13 + 10) (.inl rfl) (.int .i64 0)).set B (i * 13 + 0) (.inl rfl) (.slice ra m (c - 1))).set B (i * 13 + 11) (.inl rfl) (.int .i64 (g.tm : Int))
    generalize hw1 : ((((((((((((w.setCell ⟨B, i * 13 + 1, none⟩ (.int .i64 (o.k : Int))).setCell ⟨B, i * 13 + 2, none⟩ (.int .i64 (o.x : Int))).setCell ⟨B, i * 13 + 3, none⟩ (.int .i64 o.y)).setCell ⟨B, i * 13 + 4, none⟩ (.int .i64 1)).setCell ⟨B, i * 13 + 5, none⟩ (.int .i64 (o.x : Int))).setCell ⟨B, i * 13 + 6, none⟩ (.int .i64 o.y)).setCell ⟨B, i * 13 + 7, none⟩ (.int .i64 0)).setCell ⟨B, i * 13 + 8, none⟩ (.int .i64 0)).setCell ⟨B, i * 13 + 9, none⟩ (.bool false)).setCell ⟨B, i * 13 + 10, none⟩ (.int .i64 0)).setCell ⟨B, i * 13 + 0, none⟩ (.slice ra m (c - 1))).setCell ⟨B, i * 13 + 11, none⟩ (.int .i64 (g.tm : Int))) = w1 at hch ht
    have hrow : WRow lo hi w1 B (g.ws.set i ((g.wk i).beg g.tm)) := by
      refine hch.row (rv := .slice ra m (c - 1)) ?_ ?_
      · rw [hbeg]
        show _ = _ :: (tcells o.tk o.y ++ _)
        rw [← ocells_tk hok]
        rfl
      · rw [hbeg]
        exact hrest.agree fun b hl' hh' => ht.block b (by have := HH.out.hc; have := HH.out.ce; have := HH.out.es; omega) (by have := HH.out.bl; omega) (by have := HH.out.bl; omega)
    have hb1 := ht.box HH.out.box gB gB
    have hun1 : unders (g.ws.set i ((g.wk i).beg g.tm)) = (unders g.ws).set i true := by rw [unders_set, hbeg]
    have hwt1 : waits (g.ws.set i ((g.wk i).beg g.tm)) = (waits g.ws).set i (!r.isEmpty) := by rw [waits_set, hbeg]
    have hgB : ∀ b, (b = B ∨ (lo ≤ b ∧ b < hi)) → b ≠ G := fun b hb' => by have := HH.out.gl; rcases hb' with rfl | h <;> omega
    clear hch)
  · have hm0 : m = 0 := by have : ((m : Int) == 0) = true := by assumption
                           simpa using this
    have hr0 : r.isEmpty = true := by have := HM.out; simpa using List.eq_nil_of_length_eq_zero (this.trans hm0)
    refine ⟨HH.out.upd ?_ ?_ ?_ rfl rfl (by simp), ?_⟩
    · exact (((ht.wide (.inr rfl)).set G 4 (.inl rfl) _).set G 3 (.inl rfl) _).drew
    · rw [hun1, hwt1, hr0, List.length_set]
      exact ((hb1.set 4 _).set 3 _).drew
    · exact (hrow.agree (fun b hb' => Below.heap_setCell w1 ⟨G, 4, none⟩ _ b (hgB b hb')) (by simp)).agree (fun b hb' => Below.heap_setCell _ ⟨G, 3, none⟩ _ b (hgB b hb')) (by simp)
    · exact (((ht.wide (.inr rfl)).set G 4 (.inl rfl) _).set G 3 (.inl rfl) _).drew
  · have hm0 : m ≠ 0 := by have : ((m : Int) == 0) = false := by assumption
                           intro h; rw [h] at this; simp at this
    have hr0 : r.isEmpty = false := by have := HM.out; cases h : r with
      | nil => rw [h] at this; exact absurd this.symm hm0
      | cons _ _ => rfl
    have hsame : (waits g.ws).set i true = waits g.ws := set_same (by unfold waits; rw [List.getElem?_map, hk, Option.map_some, hl]; rfl)
    refine ⟨HH.out.upd ?_ ?_ ?_ rfl rfl (by simp), ?_⟩
    · exact ((ht.wide (.inr rfl)).set G 4 (.inl rfl) _).drew
    · rw [hun1, hwt1, hr0, List.length_set]
      show Box _ _ _ [_, _, _, .int .u64 (wd ((waits g.ws).set i true) : Nat), _, _, _]
      rw [hsame]
      exact (hb1.set 4 _).drew
    · exact hrow.agree (fun b hb' => Below.heap_setCell w1 ⟨G, 4, none⟩ _ b (hgB b hb')) (by simp)
    · exact ((ht.wide (.inr rfl)).set G 4 (.inl rfl) _).drew

end Go.Proofs.YthhcchdjeeigpaaDoor
