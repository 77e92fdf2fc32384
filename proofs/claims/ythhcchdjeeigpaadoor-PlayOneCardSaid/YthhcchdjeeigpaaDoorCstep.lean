/- Contracts of Step of package cuf and of the document's, whatever the task. -/
import Derived.Test.YthhcchdjeeigpaaDoorCra
import Derived.Test.YthhcchdjeeigpaaDoorCrb
import Derived.Test.YthhcchdjeeigpaaDoorCrc
import Derived.Test.YthhcchdjeeigpaaDoorCrd
import Derived.Test.YthhcchdjeeigpaaDoorCsa
import Derived.Test.YthhcchdjeeigpaaDoorCsb
import Derived.Test.YthhcchdjeeigpaaDoorCsc
import Derived.Test.YthhcchdjeeigpaaDoorCsd
import Derived.Test.YthhcchdjeeigpaaDoorCuf2
namespace Go.Proofs.YthhcchdjeeigpaaDoor
open Go.RowKit
set_option linter.unusedVariables false
set_option linter.unusedSimpArgs false

/-- What the document's Step tells: cells, and a task. -/
def stepped (sl : Value) (t : Tk) : Value := .agg (sl :: t.cells).toArray

set_option maxRecDepth 100000 in
set_option maxHeartbeats 1000000 in
theorem step_any (a b : Option Addr) (la ca cb : Nat) (pr : List Int) (up : List Nat) (t : Tk) (w : World) {lo hi lo2 hi2 : Nat} (I : Inv la pr up t)
    (hp : RowN lo hi w a la up) (hhi : hi ≤ w.heap.size) (hq : Row lo2 hi2 w b la pr) (hhi2 : hi2 ≤ w.heap.size) (hm : la ≤ 1000000) :
    Calls Tryd.prog 60 #[.slice a la ca, .slice b la cb, t.val] w fun e w' =>
      ∃ g c, e = .returned (.tuple #[.slice (some ⟨g, 0, none⟩) la c, (tks up pr t).val]) ∧ w.heap.size ≤ g ∧ Own w' g (ups up pr t) ∧ Below w.heap.size w w' := by
  obtain ⟨k, x, y, st, u, v, ww, r, dn, res⟩ := t
  have un := I.un
  have vn := I.vn
  have wn := I.wn
  have rn := I.rn
  have hk : k = 1 ∨ k = 2 ∨ k = 3 := by have := I.k1; have := I.k3; dsimp only at *; omega
  have hst : st = 1 ∨ st = 2 ∨ st = 3 ∨ st = 4 ∨ st = 5 ∨ st = 6 ∨ st = 7 ∨ st = 8 := by have := I.s1; have := I.s8; dsimp only at *; omega
  have kk := I.kk
  dsimp only at un vn wn rn kk
  cases dn with
  | true => exact step_dn a b la ca cb pr up k x y u v ww r res w hp hhi hq hhi2 un vn wn rn hm st
  | false =>
    rcases hst with rfl | rfl | rfl | rfl | rfl | rfl | rfl | rfl
    · by_cases e : el up u = u
      · by_cases h1 : k = 1
        · have e1 : tks up pr ⟨k, x, y, 1, u, v, ww, r, false, res⟩ = ⟨k, x, y, 1, u, v, u, r, true, u⟩ := by simp [tks, Tk.fst, Tk.snd, Tk.fin, e, h1]
          have e2 : ups up pr ⟨k, x, y, 1, u, v, ww, r, false, res⟩ = up := by simp [ups, e, h1]
          rw [e1, e2]
          exact step_1r a b la ca cb pr up k x y u v ww r res w 1 true u hp hhi hq hhi2 un vn wn rn hm e (.inl ⟨by omega, rfl, rfl, rfl⟩)
        · have e1 : tks up pr ⟨k, x, y, 1, u, v, ww, r, false, res⟩ = ⟨k, x, y, 4, u, v, u, r, false, res⟩ := by simp [tks, Tk.fst, Tk.snd, Tk.fin, e, h1]
          have e2 : ups up pr ⟨k, x, y, 1, u, v, ww, r, false, res⟩ = up := by simp [ups, e, h1]
          rw [e1, e2]
          exact step_1r a b la ca cb pr up k x y u v ww r res w 4 false res hp hhi hq hhi2 un vn wn rn hm e (.inr ⟨by omega, rfl, rfl, rfl⟩)
      · have e1 : tks up pr ⟨k, x, y, 1, u, v, ww, r, false, res⟩ = ⟨k, x, y, 2, u, v, (el up u), r, false, res⟩ := by simp [tks, Tk.fst, Tk.snd, Tk.fin, e]
        have e2 : ups up pr ⟨k, x, y, 1, u, v, ww, r, false, res⟩ = up := by simp [ups, e]
        rw [e1, e2]
        exact step_1n a b la ca cb pr up k x y u v ww r res w hp hhi hq hhi2 un vn wn rn hm e
    · by_cases e : el up ww = ww
      · by_cases h1 : k = 1
        · have e1 : tks up pr ⟨k, x, y, 2, u, v, ww, r, false, res⟩ = ⟨k, x, y, 2, ww, v, ww, ww, true, ww⟩ := by simp [tks, Tk.fst, Tk.snd, Tk.fin, e, h1]
          have e2 : ups up pr ⟨k, x, y, 2, u, v, ww, r, false, res⟩ = up := by simp [ups, e, h1]
          rw [e1, e2]
          exact step_2r a b la ca cb pr up k x y u v ww r res w 2 true ww hp hhi hq hhi2 un vn wn rn hm e (.inl ⟨by omega, rfl, rfl, rfl⟩)
        · have e1 : tks up pr ⟨k, x, y, 2, u, v, ww, r, false, res⟩ = ⟨k, x, y, 4, ww, v, ww, ww, false, res⟩ := by simp [tks, Tk.fst, Tk.snd, Tk.fin, e, h1]
          have e2 : ups up pr ⟨k, x, y, 2, u, v, ww, r, false, res⟩ = up := by simp [ups, e, h1]
          rw [e1, e2]
          exact step_2r a b la ca cb pr up k x y u v ww r res w 4 false res hp hhi hq hhi2 un vn wn rn hm e (.inr ⟨by omega, rfl, rfl, rfl⟩)
      · have e1 : tks up pr ⟨k, x, y, 2, u, v, ww, r, false, res⟩ = ⟨k, x, y, 3, u, v, ww, (el up ww), false, res⟩ := by simp [tks, Tk.fst, Tk.snd, Tk.fin, e]
        have e2 : ups up pr ⟨k, x, y, 2, u, v, ww, r, false, res⟩ = up := by simp [ups, e]
        rw [e1, e2]
        exact step_2n a b la ca cb pr up k x y u v ww r res w hp hhi hq hhi2 un vn wn rn hm e
    · by_cases e : el up u = ww
      · have e1 : tks up pr ⟨k, x, y, 3, u, v, ww, r, false, res⟩ = ⟨k, x, y, 1, ww, v, ww, r, false, res⟩ := by simp [tks, Tk.fst, Tk.snd, Tk.fin, e]
        have e2 : ups up pr ⟨k, x, y, 3, u, v, ww, r, false, res⟩ = up.set u r := by simp [ups, e]
        rw [e1, e2]
        exact step_3y a b la ca cb pr up k x y u v ww r res w hp hhi hq hhi2 un vn wn rn hm e
      · have e1 : tks up pr ⟨k, x, y, 3, u, v, ww, r, false, res⟩ = ⟨k, x, y, 1, ww, v, ww, r, false, res⟩ := by simp [tks, Tk.fst, Tk.snd, Tk.fin, e]
        have e2 : ups up pr ⟨k, x, y, 3, u, v, ww, r, false, res⟩ = up := by simp [ups, e]
        rw [e1, e2]
        exact step_3n a b la ca cb pr up k x y u v ww r res w hp hhi hq hhi2 un vn wn rn hm e
    · have h0 := kk (by omega)
      by_cases e : el up v = v
      · by_cases h2 : u = v
        · by_cases h1 : k = 2
          · have e1 : tks up pr ⟨k, x, y, 4, u, v, ww, r, false, res⟩ = ⟨k, x, y, 4, u, v, v, r, true, 1⟩ := by simp [tks, Tk.fst, Tk.snd, Tk.fin, e, h1, h2]
            have e2 : ups up pr ⟨k, x, y, 4, u, v, ww, r, false, res⟩ = up := by simp [ups, e, h1, h2]
            rw [e1, e2]
            exact step_4r a b la ca cb pr up k x y u v ww r res w 4 true 1 hp hhi hq hhi2 un vn wn rn hm e (.inl ⟨by omega, by omega, rfl, rfl, rfl⟩)
          · have e1 : tks up pr ⟨k, x, y, 4, u, v, ww, r, false, res⟩ = ⟨k, x, y, 4, u, v, v, r, true, 0⟩ := by simp [tks, Tk.fst, Tk.snd, Tk.fin, e, h1, h2]
            have e2 : ups up pr ⟨k, x, y, 4, u, v, ww, r, false, res⟩ = up := by simp [ups, e, h1, h2]
            rw [e1, e2]
            exact step_4r a b la ca cb pr up k x y u v ww r res w 4 true 0 hp hhi hq hhi2 un vn wn rn hm e (.inr (.inl ⟨by omega, by omega, rfl, rfl, rfl⟩))
        · by_cases h1 : k = 2
          · have e1 : tks up pr ⟨k, x, y, 4, u, v, ww, r, false, res⟩ = ⟨k, x, y, 7, u, v, v, r, false, res⟩ := by simp [tks, Tk.fst, Tk.snd, Tk.fin, e, h1, h2]
            have e2 : ups up pr ⟨k, x, y, 4, u, v, ww, r, false, res⟩ = up := by simp [ups, e, h1, h2]
            rw [e1, e2]
            exact step_4r a b la ca cb pr up k x y u v ww r res w 7 false res hp hhi hq hhi2 un vn wn rn hm e (.inr (.inr (.inl ⟨by omega, by omega, rfl, rfl, rfl⟩)))
          · have e1 : tks up pr ⟨k, x, y, 4, u, v, ww, r, false, res⟩ = ⟨k, x, y, 8, u, v, v, r, false, res⟩ := by simp [tks, Tk.fst, Tk.snd, Tk.fin, e, h1, h2]
            have e2 : ups up pr ⟨k, x, y, 4, u, v, ww, r, false, res⟩ = up := by simp [ups, e, h1, h2]
            rw [e1, e2]
            exact step_4r a b la ca cb pr up k x y u v ww r res w 8 false res hp hhi hq hhi2 un vn wn rn hm e (.inr (.inr (.inr ⟨by omega, by omega, rfl, rfl, rfl⟩)))
      · have e1 : tks up pr ⟨k, x, y, 4, u, v, ww, r, false, res⟩ = ⟨k, x, y, 5, u, v, (el up v), r, false, res⟩ := by simp [tks, Tk.fst, Tk.snd, Tk.fin, e]
        have e2 : ups up pr ⟨k, x, y, 4, u, v, ww, r, false, res⟩ = up := by simp [ups, e]
        rw [e1, e2]
        exact step_4n a b la ca cb pr up k x y u v ww r res w hp hhi hq hhi2 un vn wn rn hm e
    · have h0 := kk (by omega)
      by_cases e : el up ww = ww
      · by_cases h2 : u = ww
        · by_cases h1 : k = 2
          · have e1 : tks up pr ⟨k, x, y, 5, u, v, ww, r, false, res⟩ = ⟨k, x, y, 5, u, ww, ww, ww, true, 1⟩ := by simp [tks, Tk.fst, Tk.snd, Tk.fin, e, h1, h2]
            have e2 : ups up pr ⟨k, x, y, 5, u, v, ww, r, false, res⟩ = up := by simp [ups, e, h1, h2]
            rw [e1, e2]
            exact step_5r a b la ca cb pr up k x y u v ww r res w 5 true 1 hp hhi hq hhi2 un vn wn rn hm e (.inl ⟨by omega, by omega, rfl, rfl, rfl⟩)
          · have e1 : tks up pr ⟨k, x, y, 5, u, v, ww, r, false, res⟩ = ⟨k, x, y, 5, u, ww, ww, ww, true, 0⟩ := by simp [tks, Tk.fst, Tk.snd, Tk.fin, e, h1, h2]
            have e2 : ups up pr ⟨k, x, y, 5, u, v, ww, r, false, res⟩ = up := by simp [ups, e, h1, h2]
            rw [e1, e2]
            exact step_5r a b la ca cb pr up k x y u v ww r res w 5 true 0 hp hhi hq hhi2 un vn wn rn hm e (.inr (.inl ⟨by omega, by omega, rfl, rfl, rfl⟩))
        · by_cases h1 : k = 2
          · have e1 : tks up pr ⟨k, x, y, 5, u, v, ww, r, false, res⟩ = ⟨k, x, y, 7, u, ww, ww, ww, false, res⟩ := by simp [tks, Tk.fst, Tk.snd, Tk.fin, e, h1, h2]
            have e2 : ups up pr ⟨k, x, y, 5, u, v, ww, r, false, res⟩ = up := by simp [ups, e, h1, h2]
            rw [e1, e2]
            exact step_5r a b la ca cb pr up k x y u v ww r res w 7 false res hp hhi hq hhi2 un vn wn rn hm e (.inr (.inr (.inl ⟨by omega, by omega, rfl, rfl, rfl⟩)))
          · have e1 : tks up pr ⟨k, x, y, 5, u, v, ww, r, false, res⟩ = ⟨k, x, y, 8, u, ww, ww, ww, false, res⟩ := by simp [tks, Tk.fst, Tk.snd, Tk.fin, e, h1, h2]
            have e2 : ups up pr ⟨k, x, y, 5, u, v, ww, r, false, res⟩ = up := by simp [ups, e, h1, h2]
            rw [e1, e2]
            exact step_5r a b la ca cb pr up k x y u v ww r res w 8 false res hp hhi hq hhi2 un vn wn rn hm e (.inr (.inr (.inr ⟨by omega, by omega, rfl, rfl, rfl⟩)))
      · have e1 : tks up pr ⟨k, x, y, 5, u, v, ww, r, false, res⟩ = ⟨k, x, y, 6, u, v, ww, (el up ww), false, res⟩ := by simp [tks, Tk.fst, Tk.snd, Tk.fin, e]
        have e2 : ups up pr ⟨k, x, y, 5, u, v, ww, r, false, res⟩ = up := by simp [ups, e]
        rw [e1, e2]
        exact step_5n a b la ca cb pr up k x y u v ww r res w hp hhi hq hhi2 un vn wn rn hm e
    · by_cases e : el up v = ww
      · have e1 : tks up pr ⟨k, x, y, 6, u, v, ww, r, false, res⟩ = ⟨k, x, y, 4, u, ww, ww, r, false, res⟩ := by simp [tks, Tk.fst, Tk.snd, Tk.fin, e]
        have e2 : ups up pr ⟨k, x, y, 6, u, v, ww, r, false, res⟩ = up.set v r := by simp [ups, e]
        rw [e1, e2]
        exact step_6y a b la ca cb pr up k x y u v ww r res w hp hhi hq hhi2 un vn wn rn hm e
      · have e1 : tks up pr ⟨k, x, y, 6, u, v, ww, r, false, res⟩ = ⟨k, x, y, 4, u, ww, ww, r, false, res⟩ := by simp [tks, Tk.fst, Tk.snd, Tk.fin, e]
        have e2 : ups up pr ⟨k, x, y, 6, u, v, ww, r, false, res⟩ = up := by simp [ups, e]
        rw [e1, e2]
        exact step_6n a b la ca cb pr up k x y u v ww r res w hp hhi hq hhi2 un vn wn rn hm e
    · by_cases e : el up u = u
      · have e1 : tks up pr ⟨k, x, y, 7, u, v, ww, r, false, res⟩ = ⟨k, x, y, 7, u, v, u, r, true, 0⟩ := by simp [tks, Tk.fst, Tk.snd, Tk.fin, e]
        have e2 : ups up pr ⟨k, x, y, 7, u, v, ww, r, false, res⟩ = up := by simp [ups, e]
        rw [e1, e2]
        exact step_7y a b la ca cb pr up k x y u v ww r res w hp hhi hq hhi2 un vn wn rn hm e
      · have e1 : tks up pr ⟨k, x, y, 7, u, v, ww, r, false, res⟩ = ⟨k, x, y, 1, u, v, (el up u), r, false, res⟩ := by simp [tks, Tk.fst, Tk.snd, Tk.fin, e]
        have e2 : ups up pr ⟨k, x, y, 7, u, v, ww, r, false, res⟩ = up := by simp [ups, e]
        rw [e1, e2]
        exact step_7n a b la ca cb pr up k x y u v ww r res w hp hhi hq hhi2 un vn wn rn hm e
    · by_cases hb : bel pr u v
      · by_cases e : el up u = u
        · have e1 : tks up pr ⟨k, x, y, 8, u, v, ww, r, false, res⟩ = ⟨k, x, y, 8, u, v, ww, r, true, 1⟩ := by simp [tks, Tk.fst, Tk.snd, Tk.fin, hb, e]
          have e2 : ups up pr ⟨k, x, y, 8, u, v, ww, r, false, res⟩ = up.set u v := by simp [ups, hb, e]
          rw [e1, e2]
          exact step_8by a b la ca cb pr up k x y u v ww r res w hp hhi hq hhi2 un vn wn rn hm (decide_eq_true hb) e
        · have e1 : tks up pr ⟨k, x, y, 8, u, v, ww, r, false, res⟩ = ⟨k, x, y, 1, u, v, ww, r, false, res⟩ := by simp [tks, Tk.fst, Tk.snd, Tk.fin, hb, e]
          have e2 : ups up pr ⟨k, x, y, 8, u, v, ww, r, false, res⟩ = up := by simp [ups, hb, e]
          rw [e1, e2]
          exact step_8bn a b la ca cb pr up k x y u v ww r res w hp hhi hq hhi2 un vn wn rn hm (decide_eq_true hb) e
      · by_cases e : el up v = v
        · have e1 : tks up pr ⟨k, x, y, 8, u, v, ww, r, false, res⟩ = ⟨k, x, y, 8, u, v, ww, r, true, 1⟩ := by simp [tks, Tk.fst, Tk.snd, Tk.fin, hb, e]
          have e2 : ups up pr ⟨k, x, y, 8, u, v, ww, r, false, res⟩ = up.set v u := by simp [ups, hb, e]
          rw [e1, e2]
          exact step_8ay a b la ca cb pr up k x y u v ww r res w hp hhi hq hhi2 un vn wn rn hm (decide_eq_false hb) e
        · have e1 : tks up pr ⟨k, x, y, 8, u, v, ww, r, false, res⟩ = ⟨k, x, y, 1, u, v, ww, r, false, res⟩ := by simp [tks, Tk.fst, Tk.snd, Tk.fin, hb, e]
          have e2 : ups up pr ⟨k, x, y, 8, u, v, ww, r, false, res⟩ = up := by simp [ups, hb, e]
          rw [e1, e2]
          exact step_8an a b la ca cb pr up k x y u v ww r res w hp hhi hq hhi2 un vn wn rn hm (decide_eq_false hb) e

set_option maxRecDepth 100000 in
set_option maxHeartbeats 1000000 in
theorem rstep_any (a b : Option Addr) (la ca cb : Nat) (pr : List Int) (up : List Nat) (t : Tk) (w : World) {lo hi lo2 hi2 : Nat} (I : Inv la pr up t)
    (hp : RowN lo hi w a la up) (hhi : hi ≤ w.heap.size) (hq : Row lo2 hi2 w b la pr) (hhi2 : hi2 ≤ w.heap.size) (hm : la ≤ 1000000) :
    Calls Tryd.prog 42 #[.slice a la ca, .slice b la cb, t.val] w fun e w' =>
      ∃ g c, e = .returned (stepped (.slice (some ⟨g, 0, none⟩) la c) (tks up pr t)) ∧ w.heap.size ≤ g ∧ Own w' g (ups up pr t) ∧ Below w.heap.size w w' := by
  obtain ⟨k, x, y, st, u, v, ww, r, dn, res⟩ := t
  have un := I.un
  have vn := I.vn
  have wn := I.wn
  have rn := I.rn
  have hk : k = 1 ∨ k = 2 ∨ k = 3 := by have := I.k1; have := I.k3; dsimp only at *; omega
  have hst : st = 1 ∨ st = 2 ∨ st = 3 ∨ st = 4 ∨ st = 5 ∨ st = 6 ∨ st = 7 ∨ st = 8 := by have := I.s1; have := I.s8; dsimp only at *; omega
  have kk := I.kk
  dsimp only at un vn wn rn kk
  cases dn with
  | true => exact rstep_dn a b la ca cb pr up k x y u v ww r res w hp hhi hq hhi2 un vn wn rn hm st
  | false =>
    rcases hst with rfl | rfl | rfl | rfl | rfl | rfl | rfl | rfl
    · by_cases e : el up u = u
      · by_cases h1 : k = 1
        · have e1 : tks up pr ⟨k, x, y, 1, u, v, ww, r, false, res⟩ = ⟨k, x, y, 1, u, v, u, r, true, u⟩ := by simp [tks, Tk.fst, Tk.snd, Tk.fin, e, h1]
          have e2 : ups up pr ⟨k, x, y, 1, u, v, ww, r, false, res⟩ = up := by simp [ups, e, h1]
          rw [e1, e2]
          exact rstep_1r a b la ca cb pr up k x y u v ww r res w 1 true u hp hhi hq hhi2 un vn wn rn hm e (.inl ⟨by omega, rfl, rfl, rfl⟩)
        · have e1 : tks up pr ⟨k, x, y, 1, u, v, ww, r, false, res⟩ = ⟨k, x, y, 4, u, v, u, r, false, res⟩ := by simp [tks, Tk.fst, Tk.snd, Tk.fin, e, h1]
          have e2 : ups up pr ⟨k, x, y, 1, u, v, ww, r, false, res⟩ = up := by simp [ups, e, h1]
          rw [e1, e2]
          exact rstep_1r a b la ca cb pr up k x y u v ww r res w 4 false res hp hhi hq hhi2 un vn wn rn hm e (.inr ⟨by omega, rfl, rfl, rfl⟩)
      · have e1 : tks up pr ⟨k, x, y, 1, u, v, ww, r, false, res⟩ = ⟨k, x, y, 2, u, v, (el up u), r, false, res⟩ := by simp [tks, Tk.fst, Tk.snd, Tk.fin, e]
        have e2 : ups up pr ⟨k, x, y, 1, u, v, ww, r, false, res⟩ = up := by simp [ups, e]
        rw [e1, e2]
        exact rstep_1n a b la ca cb pr up k x y u v ww r res w hp hhi hq hhi2 un vn wn rn hm e
    · by_cases e : el up ww = ww
      · by_cases h1 : k = 1
        · have e1 : tks up pr ⟨k, x, y, 2, u, v, ww, r, false, res⟩ = ⟨k, x, y, 2, ww, v, ww, ww, true, ww⟩ := by simp [tks, Tk.fst, Tk.snd, Tk.fin, e, h1]
          have e2 : ups up pr ⟨k, x, y, 2, u, v, ww, r, false, res⟩ = up := by simp [ups, e, h1]
          rw [e1, e2]
          exact rstep_2r a b la ca cb pr up k x y u v ww r res w 2 true ww hp hhi hq hhi2 un vn wn rn hm e (.inl ⟨by omega, rfl, rfl, rfl⟩)
        · have e1 : tks up pr ⟨k, x, y, 2, u, v, ww, r, false, res⟩ = ⟨k, x, y, 4, ww, v, ww, ww, false, res⟩ := by simp [tks, Tk.fst, Tk.snd, Tk.fin, e, h1]
          have e2 : ups up pr ⟨k, x, y, 2, u, v, ww, r, false, res⟩ = up := by simp [ups, e, h1]
          rw [e1, e2]
          exact rstep_2r a b la ca cb pr up k x y u v ww r res w 4 false res hp hhi hq hhi2 un vn wn rn hm e (.inr ⟨by omega, rfl, rfl, rfl⟩)
      · have e1 : tks up pr ⟨k, x, y, 2, u, v, ww, r, false, res⟩ = ⟨k, x, y, 3, u, v, ww, (el up ww), false, res⟩ := by simp [tks, Tk.fst, Tk.snd, Tk.fin, e]
        have e2 : ups up pr ⟨k, x, y, 2, u, v, ww, r, false, res⟩ = up := by simp [ups, e]
        rw [e1, e2]
        exact rstep_2n a b la ca cb pr up k x y u v ww r res w hp hhi hq hhi2 un vn wn rn hm e
    · by_cases e : el up u = ww
      · have e1 : tks up pr ⟨k, x, y, 3, u, v, ww, r, false, res⟩ = ⟨k, x, y, 1, ww, v, ww, r, false, res⟩ := by simp [tks, Tk.fst, Tk.snd, Tk.fin, e]
        have e2 : ups up pr ⟨k, x, y, 3, u, v, ww, r, false, res⟩ = up.set u r := by simp [ups, e]
        rw [e1, e2]
        exact rstep_3y a b la ca cb pr up k x y u v ww r res w hp hhi hq hhi2 un vn wn rn hm e
      · have e1 : tks up pr ⟨k, x, y, 3, u, v, ww, r, false, res⟩ = ⟨k, x, y, 1, ww, v, ww, r, false, res⟩ := by simp [tks, Tk.fst, Tk.snd, Tk.fin, e]
        have e2 : ups up pr ⟨k, x, y, 3, u, v, ww, r, false, res⟩ = up := by simp [ups, e]
        rw [e1, e2]
        exact rstep_3n a b la ca cb pr up k x y u v ww r res w hp hhi hq hhi2 un vn wn rn hm e
    · have h0 := kk (by omega)
      by_cases e : el up v = v
      · by_cases h2 : u = v
        · by_cases h1 : k = 2
          · have e1 : tks up pr ⟨k, x, y, 4, u, v, ww, r, false, res⟩ = ⟨k, x, y, 4, u, v, v, r, true, 1⟩ := by simp [tks, Tk.fst, Tk.snd, Tk.fin, e, h1, h2]
            have e2 : ups up pr ⟨k, x, y, 4, u, v, ww, r, false, res⟩ = up := by simp [ups, e, h1, h2]
            rw [e1, e2]
            exact rstep_4r a b la ca cb pr up k x y u v ww r res w 4 true 1 hp hhi hq hhi2 un vn wn rn hm e (.inl ⟨by omega, by omega, rfl, rfl, rfl⟩)
          · have e1 : tks up pr ⟨k, x, y, 4, u, v, ww, r, false, res⟩ = ⟨k, x, y, 4, u, v, v, r, true, 0⟩ := by simp [tks, Tk.fst, Tk.snd, Tk.fin, e, h1, h2]
            have e2 : ups up pr ⟨k, x, y, 4, u, v, ww, r, false, res⟩ = up := by simp [ups, e, h1, h2]
            rw [e1, e2]
            exact rstep_4r a b la ca cb pr up k x y u v ww r res w 4 true 0 hp hhi hq hhi2 un vn wn rn hm e (.inr (.inl ⟨by omega, by omega, rfl, rfl, rfl⟩))
        · by_cases h1 : k = 2
          · have e1 : tks up pr ⟨k, x, y, 4, u, v, ww, r, false, res⟩ = ⟨k, x, y, 7, u, v, v, r, false, res⟩ := by simp [tks, Tk.fst, Tk.snd, Tk.fin, e, h1, h2]
            have e2 : ups up pr ⟨k, x, y, 4, u, v, ww, r, false, res⟩ = up := by simp [ups, e, h1, h2]
            rw [e1, e2]
            exact rstep_4r a b la ca cb pr up k x y u v ww r res w 7 false res hp hhi hq hhi2 un vn wn rn hm e (.inr (.inr (.inl ⟨by omega, by omega, rfl, rfl, rfl⟩)))
          · have e1 : tks up pr ⟨k, x, y, 4, u, v, ww, r, false, res⟩ = ⟨k, x, y, 8, u, v, v, r, false, res⟩ := by simp [tks, Tk.fst, Tk.snd, Tk.fin, e, h1, h2]
            have e2 : ups up pr ⟨k, x, y, 4, u, v, ww, r, false, res⟩ = up := by simp [ups, e, h1, h2]
            rw [e1, e2]
            exact rstep_4r a b la ca cb pr up k x y u v ww r res w 8 false res hp hhi hq hhi2 un vn wn rn hm e (.inr (.inr (.inr ⟨by omega, by omega, rfl, rfl, rfl⟩)))
      · have e1 : tks up pr ⟨k, x, y, 4, u, v, ww, r, false, res⟩ = ⟨k, x, y, 5, u, v, (el up v), r, false, res⟩ := by simp [tks, Tk.fst, Tk.snd, Tk.fin, e]
        have e2 : ups up pr ⟨k, x, y, 4, u, v, ww, r, false, res⟩ = up := by simp [ups, e]
        rw [e1, e2]
        exact rstep_4n a b la ca cb pr up k x y u v ww r res w hp hhi hq hhi2 un vn wn rn hm e
    · have h0 := kk (by omega)
      by_cases e : el up ww = ww
      · by_cases h2 : u = ww
        · by_cases h1 : k = 2
          · have e1 : tks up pr ⟨k, x, y, 5, u, v, ww, r, false, res⟩ = ⟨k, x, y, 5, u, ww, ww, ww, true, 1⟩ := by simp [tks, Tk.fst, Tk.snd, Tk.fin, e, h1, h2]
            have e2 : ups up pr ⟨k, x, y, 5, u, v, ww, r, false, res⟩ = up := by simp [ups, e, h1, h2]
            rw [e1, e2]
            exact rstep_5r a b la ca cb pr up k x y u v ww r res w 5 true 1 hp hhi hq hhi2 un vn wn rn hm e (.inl ⟨by omega, by omega, rfl, rfl, rfl⟩)
          · have e1 : tks up pr ⟨k, x, y, 5, u, v, ww, r, false, res⟩ = ⟨k, x, y, 5, u, ww, ww, ww, true, 0⟩ := by simp [tks, Tk.fst, Tk.snd, Tk.fin, e, h1, h2]
            have e2 : ups up pr ⟨k, x, y, 5, u, v, ww, r, false, res⟩ = up := by simp [ups, e, h1, h2]
            rw [e1, e2]
            exact rstep_5r a b la ca cb pr up k x y u v ww r res w 5 true 0 hp hhi hq hhi2 un vn wn rn hm e (.inr (.inl ⟨by omega, by omega, rfl, rfl, rfl⟩))
        · by_cases h1 : k = 2
          · have e1 : tks up pr ⟨k, x, y, 5, u, v, ww, r, false, res⟩ = ⟨k, x, y, 7, u, ww, ww, ww, false, res⟩ := by simp [tks, Tk.fst, Tk.snd, Tk.fin, e, h1, h2]
            have e2 : ups up pr ⟨k, x, y, 5, u, v, ww, r, false, res⟩ = up := by simp [ups, e, h1, h2]
            rw [e1, e2]
            exact rstep_5r a b la ca cb pr up k x y u v ww r res w 7 false res hp hhi hq hhi2 un vn wn rn hm e (.inr (.inr (.inl ⟨by omega, by omega, rfl, rfl, rfl⟩)))
          · have e1 : tks up pr ⟨k, x, y, 5, u, v, ww, r, false, res⟩ = ⟨k, x, y, 8, u, ww, ww, ww, false, res⟩ := by simp [tks, Tk.fst, Tk.snd, Tk.fin, e, h1, h2]
            have e2 : ups up pr ⟨k, x, y, 5, u, v, ww, r, false, res⟩ = up := by simp [ups, e, h1, h2]
            rw [e1, e2]
            exact rstep_5r a b la ca cb pr up k x y u v ww r res w 8 false res hp hhi hq hhi2 un vn wn rn hm e (.inr (.inr (.inr ⟨by omega, by omega, rfl, rfl, rfl⟩)))
      · have e1 : tks up pr ⟨k, x, y, 5, u, v, ww, r, false, res⟩ = ⟨k, x, y, 6, u, v, ww, (el up ww), false, res⟩ := by simp [tks, Tk.fst, Tk.snd, Tk.fin, e]
        have e2 : ups up pr ⟨k, x, y, 5, u, v, ww, r, false, res⟩ = up := by simp [ups, e]
        rw [e1, e2]
        exact rstep_5n a b la ca cb pr up k x y u v ww r res w hp hhi hq hhi2 un vn wn rn hm e
    · by_cases e : el up v = ww
      · have e1 : tks up pr ⟨k, x, y, 6, u, v, ww, r, false, res⟩ = ⟨k, x, y, 4, u, ww, ww, r, false, res⟩ := by simp [tks, Tk.fst, Tk.snd, Tk.fin, e]
        have e2 : ups up pr ⟨k, x, y, 6, u, v, ww, r, false, res⟩ = up.set v r := by simp [ups, e]
        rw [e1, e2]
        exact rstep_6y a b la ca cb pr up k x y u v ww r res w hp hhi hq hhi2 un vn wn rn hm e
      · have e1 : tks up pr ⟨k, x, y, 6, u, v, ww, r, false, res⟩ = ⟨k, x, y, 4, u, ww, ww, r, false, res⟩ := by simp [tks, Tk.fst, Tk.snd, Tk.fin, e]
        have e2 : ups up pr ⟨k, x, y, 6, u, v, ww, r, false, res⟩ = up := by simp [ups, e]
        rw [e1, e2]
        exact rstep_6n a b la ca cb pr up k x y u v ww r res w hp hhi hq hhi2 un vn wn rn hm e
    · by_cases e : el up u = u
      · have e1 : tks up pr ⟨k, x, y, 7, u, v, ww, r, false, res⟩ = ⟨k, x, y, 7, u, v, u, r, true, 0⟩ := by simp [tks, Tk.fst, Tk.snd, Tk.fin, e]
        have e2 : ups up pr ⟨k, x, y, 7, u, v, ww, r, false, res⟩ = up := by simp [ups, e]
        rw [e1, e2]
        exact rstep_7y a b la ca cb pr up k x y u v ww r res w hp hhi hq hhi2 un vn wn rn hm e
      · have e1 : tks up pr ⟨k, x, y, 7, u, v, ww, r, false, res⟩ = ⟨k, x, y, 1, u, v, (el up u), r, false, res⟩ := by simp [tks, Tk.fst, Tk.snd, Tk.fin, e]
        have e2 : ups up pr ⟨k, x, y, 7, u, v, ww, r, false, res⟩ = up := by simp [ups, e]
        rw [e1, e2]
        exact rstep_7n a b la ca cb pr up k x y u v ww r res w hp hhi hq hhi2 un vn wn rn hm e
    · by_cases hb : bel pr u v
      · by_cases e : el up u = u
        · have e1 : tks up pr ⟨k, x, y, 8, u, v, ww, r, false, res⟩ = ⟨k, x, y, 8, u, v, ww, r, true, 1⟩ := by simp [tks, Tk.fst, Tk.snd, Tk.fin, hb, e]
          have e2 : ups up pr ⟨k, x, y, 8, u, v, ww, r, false, res⟩ = up.set u v := by simp [ups, hb, e]
          rw [e1, e2]
          exact rstep_8by a b la ca cb pr up k x y u v ww r res w hp hhi hq hhi2 un vn wn rn hm (decide_eq_true hb) e
        · have e1 : tks up pr ⟨k, x, y, 8, u, v, ww, r, false, res⟩ = ⟨k, x, y, 1, u, v, ww, r, false, res⟩ := by simp [tks, Tk.fst, Tk.snd, Tk.fin, hb, e]
          have e2 : ups up pr ⟨k, x, y, 8, u, v, ww, r, false, res⟩ = up := by simp [ups, hb, e]
          rw [e1, e2]
          exact rstep_8bn a b la ca cb pr up k x y u v ww r res w hp hhi hq hhi2 un vn wn rn hm (decide_eq_true hb) e
      · by_cases e : el up v = v
        · have e1 : tks up pr ⟨k, x, y, 8, u, v, ww, r, false, res⟩ = ⟨k, x, y, 8, u, v, ww, r, true, 1⟩ := by simp [tks, Tk.fst, Tk.snd, Tk.fin, hb, e]
          have e2 : ups up pr ⟨k, x, y, 8, u, v, ww, r, false, res⟩ = up.set v u := by simp [ups, hb, e]
          rw [e1, e2]
          exact rstep_8ay a b la ca cb pr up k x y u v ww r res w hp hhi hq hhi2 un vn wn rn hm (decide_eq_false hb) e
        · have e1 : tks up pr ⟨k, x, y, 8, u, v, ww, r, false, res⟩ = ⟨k, x, y, 1, u, v, ww, r, false, res⟩ := by simp [tks, Tk.fst, Tk.snd, Tk.fin, hb, e]
          have e2 : ups up pr ⟨k, x, y, 8, u, v, ww, r, false, res⟩ = up := by simp [ups, hb, e]
          rw [e1, e2]
          exact rstep_8an a b la ca cb pr up k x y u v ww r res w hp hhi hq hhi2 un vn wn rn hm (decide_eq_false hb) e

end Go.Proofs.YthhcchdjeeigpaaDoor
