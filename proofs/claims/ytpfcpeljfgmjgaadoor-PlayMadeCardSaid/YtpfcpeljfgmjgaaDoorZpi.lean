/- Contracts of Step of package cuf and of the document's, whatever the task. Contracts of the statements' own awake, op, Prio. Contracts of the document's NewPart, of the statements' own Ops. -/
import Derived.Test.YtpfcpeljfgmjgaaDoorZpd
import Derived.Test.YtpfcpeljfgmjgaaDoorZph
import Derived.Laws.MakeOwn
import Derived.IntWalk
import Derived.Test.YtpfcpeljfgmjgaaDoorZpa
import Derived.Deep.RegionHeld3
namespace Go.Proofs.YtpfcpeljfgmjgaaDoor
open Go.RowKit
set_option linter.unusedVariables false
set_option linter.unusedSimpArgs false

/-- What the document's Step tells: cells, and a task. -/
def stepped (sl : Value) (t : Tk) : Value := .agg (sl :: t.cells).toArray

set_option maxRecDepth 100000 in
set_option maxHeartbeats 1000000 in
theorem step_any (a b : Option Addr) (la ca cb : Nat) (pr : List Int) (up : List Nat) (t : Tk) (w : World) {lo hi lo2 hi2 : Nat} (I : Inv la pr up t)
    (hp : RowN lo hi w a la up) (hhi : hi ≤ w.heap.size) (hq : Row lo2 hi2 w b la pr) (hhi2 : hi2 ≤ w.heap.size) (hm : la ≤ 1000000) :
    Calls Tryd.prog 73 #[.slice a la ca, .slice b la cb, t.val] w fun e w' =>
      ∃ g c, e = .returned (.tuple #[.slice (some ⟨g, 0, none⟩) la c, (tks up pr t).val]) ∧ w.heap.size ≤ g ∧ Own w' g (ups up pr t) ∧ Below w.heap.size w w' := by
  obtain ⟨k, x, y, st, u, v, ww, r, dn, res⟩ := t
  have un := I.un
  have vn := I.vn
  have wn := I.wn
  have rn := I.rn
  have hk : k = 1 ∨ k = 2 ∨ k = 3 := by have := I.k1; have := I.k3; dsimp only at *; omega
  have hst : st = 1 ∨ st = 2 ∨ st = 3 ∨ st = 4 ∨ st = 5 ∨ st = 6 ∨ st = 7 ∨ st = 8 := by have := I.s1; have := I.s8; dsimp only at *; omega
  have kk := I.kk
  dsimp only at un vn wn rn kk
  cases dn with
  | true => exact step_dn a b la ca cb pr up k x y u v ww r res w hp hhi hq hhi2 un vn wn rn hm st
  | false =>
    rcases hst with rfl | rfl | rfl | rfl | rfl | rfl | rfl | rfl
    · by_cases e : el up u = u
      · by_cases h1 : k = 1
        · have e1 : tks up pr ⟨k, x, y, 1, u, v, ww, r, false, res⟩ = ⟨k, x, y, 1, u, v, u, r, true, u⟩ := by simp [tks, Tk.fst, Tk.snd, Tk.fin, e, h1]
          have e2 : ups up pr ⟨k, x, y, 1, u, v, ww, r, false, res⟩ = up := by simp [ups, e, h1]
          rw [e1, e2]
          exact step_1r a b la ca cb pr up k x y u v ww r res w 1 true u hp hhi hq hhi2 un vn wn rn hm e (.inl ⟨by omega, rfl, rfl, rfl⟩)
        · have e1 : tks up pr ⟨k, x, y, 1, u, v, ww, r, false, res⟩ = ⟨k, x, y, 4, u, v, u, r, false, res⟩ := by simp [tks, Tk.fst, Tk.snd, Tk.fin, e, h1]
          have e2 : ups up pr ⟨k, x, y, 1, u, v, ww, r, false, res⟩ = up := by simp [ups, e, h1]
          rw [e1, e2]
          exact step_1r a b la ca cb pr up k x y u v ww r res w 4 false res hp hhi hq hhi2 un vn wn rn hm e (.inr ⟨by omega, rfl, rfl, rfl⟩)
      · have e1 : tks up pr ⟨k, x, y, 1, u, v, ww, r, false, res⟩ = ⟨k, x, y, 2, u, v, (el up u), r, false, res⟩ := by simp [tks, Tk.fst, Tk.snd, Tk.fin, e]
        have e2 : ups up pr ⟨k, x, y, 1, u, v, ww, r, false, res⟩ = up := by simp [ups, e]
        rw [e1, e2]
        exact step_1n a b la ca cb pr up k x y u v ww r res w hp hhi hq hhi2 un vn wn rn hm e
    · by_cases e : el up ww = ww
      · by_cases h1 : k = 1
        · have e1 : tks up pr ⟨k, x, y, 2, u, v, ww, r, false, res⟩ = ⟨k, x, y, 2, ww, v, ww, ww, true, ww⟩ := by simp [tks, Tk.fst, Tk.snd, Tk.fin, e, h1]
          have e2 : ups up pr ⟨k, x, y, 2, u, v, ww, r, false, res⟩ = up := by simp [ups, e, h1]
          rw [e1, e2]
          exact step_2r a b la ca cb pr up k x y u v ww r res w 2 true ww hp hhi hq hhi2 un vn wn rn hm e (.inl ⟨by omega, rfl, rfl, rfl⟩)
        · have e1 : tks up pr ⟨k, x, y, 2, u, v, ww, r, false, res⟩ = ⟨k, x, y, 4, ww, v, ww, ww, false, res⟩ := by simp [tks, Tk.fst, Tk.snd, Tk.fin, e, h1]
          have e2 : ups up pr ⟨k, x, y, 2, u, v, ww, r, false, res⟩ = up := by simp [ups, e, h1]
          rw [e1, e2]
          exact step_2r a b la ca cb pr up k x y u v ww r res w 4 false res hp hhi hq hhi2 un vn wn rn hm e (.inr ⟨by omega, rfl, rfl, rfl⟩)
      · have e1 : tks up pr ⟨k, x, y, 2, u, v, ww, r, false, res⟩ = ⟨k, x, y, 3, u, v, ww, (el up ww), false, res⟩ := by simp [tks, Tk.fst, Tk.snd, Tk.fin, e]
        have e2 : ups up pr ⟨k, x, y, 2, u, v, ww, r, false, res⟩ = up := by simp [ups, e]
        rw [e1, e2]
        exact step_2n a b la ca cb pr up k x y u v ww r res w hp hhi hq hhi2 un vn wn rn hm e
    · by_cases e : el up u = ww
      · have e1 : tks up pr ⟨k, x, y, 3, u, v, ww, r, false, res⟩ = ⟨k, x, y, 1, ww, v, ww, r, false, res⟩ := by simp [tks, Tk.fst, Tk.snd, Tk.fin, e]
        have e2 : ups up pr ⟨k, x, y, 3, u, v, ww, r, false, res⟩ = up.set u r := by simp [ups, e]
        rw [e1, e2]
        exact step_3y a b la ca cb pr up k x y u v ww r res w hp hhi hq hhi2 un vn wn rn hm e
      · have e1 : tks up pr ⟨k, x, y, 3, u, v, ww, r, false, res⟩ = ⟨k, x, y, 1, ww, v, ww, r, false, res⟩ := by simp [tks, Tk.fst, Tk.snd, Tk.fin, e]
        have e2 : ups up pr ⟨k, x, y, 3, u, v, ww, r, false, res⟩ = up := by simp [ups, e]
        rw [e1, e2]
        exact step_3n a b la ca cb pr up k x y u v ww r res w hp hhi hq hhi2 un vn wn rn hm e
    · have h0 := kk (by omega)
      by_cases e : el up v = v
      · by_cases h2 : u = v
        · by_cases h1 : k = 2
          · have e1 : tks up pr ⟨k, x, y, 4, u, v, ww, r, false, res⟩ = ⟨k, x, y, 4, u, v, v, r, true, 1⟩ := by simp [tks, Tk.fst, Tk.snd, Tk.fin, e, h1, h2]
            have e2 : ups up pr ⟨k, x, y, 4, u, v, ww, r, false, res⟩ = up := by simp [ups, e, h1, h2]
            rw [e1, e2]
            exact step_4r a b la ca cb pr up k x y u v ww r res w 4 true 1 hp hhi hq hhi2 un vn wn rn hm e (.inl ⟨by omega, by omega, rfl, rfl, rfl⟩)
          · have e1 : tks up pr ⟨k, x, y, 4, u, v, ww, r, false, res⟩ = ⟨k, x, y, 4, u, v, v, r, true, 0⟩ := by simp [tks, Tk.fst, Tk.snd, Tk.fin, e, h1, h2]
            have e2 : ups up pr ⟨k, x, y, 4, u, v, ww, r, false, res⟩ = up := by simp [ups, e, h1, h2]
            rw [e1, e2]
            exact step_4r a b la ca cb pr up k x y u v ww r res w 4 true 0 hp hhi hq hhi2 un vn wn rn hm e (.inr (.inl ⟨by omega, by omega, rfl, rfl, rfl⟩))
        · by_cases h1 : k = 2
          · have e1 : tks up pr ⟨k, x, y, 4, u, v, ww, r, false, res⟩ = ⟨k, x, y, 7, u, v, v, r, false, res⟩ := by simp [tks, Tk.fst, Tk.snd, Tk.fin, e, h1, h2]
            have e2 : ups up pr ⟨k, x, y, 4, u, v, ww, r, false, res⟩ = up := by simp [ups, e, h1, h2]
            rw [e1, e2]
            exact step_4r a b la ca cb pr up k x y u v ww r res w 7 false res hp hhi hq hhi2 un vn wn rn hm e (.inr (.inr (.inl ⟨by omega, by omega, rfl, rfl, rfl⟩)))
          · have e1 : tks up pr ⟨k, x, y, 4, u, v, ww, r, false, res⟩ = ⟨k, x, y, 8, u, v, v, r, false, res⟩ := by simp [tks, Tk.fst, Tk.snd, Tk.fin, e, h1, h2]
            have e2 : ups up pr ⟨k, x, y, 4, u, v, ww, r, false, res⟩ = up := by simp [ups, e, h1, h2]
            rw [e1, e2]
            exact step_4r a b la ca cb pr up k x y u v ww r res w 8 false res hp hhi hq hhi2 un vn wn rn hm e (.inr (.inr (.inr ⟨by omega, by omega, rfl, rfl, rfl⟩)))
      · have e1 : tks up pr ⟨k, x, y, 4, u, v, ww, r, false, res⟩ = ⟨k, x, y, 5, u, v, (el up v), r, false, res⟩ := by simp [tks, Tk.fst, Tk.snd, Tk.fin, e]
        have e2 : ups up pr ⟨k, x, y, 4, u, v, ww, r, false, res⟩ = up := by simp [ups, e]
        rw [e1, e2]
        exact step_4n a b la ca cb pr up k x y u v ww r res w hp hhi hq hhi2 un vn wn rn hm e
    · have h0 := kk (by omega)
      by_cases e : el up ww = ww
      · by_cases h2 : u = ww
        · by_cases h1 : k = 2
          · have e1 : tks up pr ⟨k, x, y, 5, u, v, ww, r, false, res⟩ = ⟨k, x, y, 5, u, ww, ww, ww, true, 1⟩ := by simp [tks, Tk.fst, Tk.snd, Tk.fin, e, h1, h2]
            have e2 : ups up pr ⟨k, x, y, 5, u, v, ww, r, false, res⟩ = up := by simp [ups, e, h1, h2]
            rw [e1, e2]
            exact step_5r a b la ca cb pr up k x y u v ww r res w 5 true 1 hp hhi hq hhi2 un vn wn rn hm e (.inl ⟨by omega, by omega, rfl, rfl, rfl⟩)
          · have e1 : tks up pr ⟨k, x, y, 5, u, v, ww, r, false, res⟩ = ⟨k, x, y, 5, u, ww, ww, ww, true, 0⟩ := by simp [tks, Tk.fst, Tk.snd, Tk.fin, e, h1, h2]
            have e2 : ups up pr ⟨k, x, y, 5, u, v, ww, r, false, res⟩ = up := by simp [ups, e, h1, h2]
            rw [e1, e2]
            exact step_5r a b la ca cb pr up k x y u v ww r res w 5 true 0 hp hhi hq hhi2 un vn wn rn hm e (.inr (.inl ⟨by omega, by omega, rfl, rfl, rfl⟩))
        · by_cases h1 : k = 2
          · have e1 : tks up pr ⟨k, x, y, 5, u, v, ww, r, false, res⟩ = ⟨k, x, y, 7, u, ww, ww, ww, false, res⟩ := by simp [tks, Tk.fst, Tk.snd, Tk.fin, e, h1, h2]
            have e2 : ups up pr ⟨k, x, y, 5, u, v, ww, r, false, res⟩ = up := by simp [ups, e, h1, h2]
            rw [e1, e2]
            exact step_5r a b la ca cb pr up k x y u v ww r res w 7 false res hp hhi hq hhi2 un vn wn rn hm e (.inr (.inr (.inl ⟨by omega, by omega, rfl, rfl, rfl⟩)))
          · have e1 : tks up pr ⟨k, x, y, 5, u, v, ww, r, false, res⟩ = ⟨k, x, y, 8, u, ww, ww, ww, false, res⟩ := by simp [tks, Tk.fst, Tk.snd, Tk.fin, e, h1, h2]
            have e2 : ups up pr ⟨k, x, y, 5, u, v, ww, r, false, res⟩ = up := by simp [ups, e, h1, h2]
            rw [e1, e2]
            exact step_5r a b la ca cb pr up k x y u v ww r res w 8 false res hp hhi hq hhi2 un vn wn rn hm e (.inr (.inr (.inr ⟨by omega, by omega, rfl, rfl, rfl⟩)))
      · have e1 : tks up pr ⟨k, x, y, 5, u, v, ww, r, false, res⟩ = ⟨k, x, y, 6, u, v, ww, (el up ww), false, res⟩ := by simp [tks, Tk.fst, Tk.snd, Tk.fin, e]
        have e2 : ups up pr ⟨k, x, y, 5, u, v, ww, r, false, res⟩ = up := by simp [ups, e]
        rw [e1, e2]
        exact step_5n a b la ca cb pr up k x y u v ww r res w hp hhi hq hhi2 un vn wn rn hm e
    · by_cases e : el up v = ww
      · have e1 : tks up pr ⟨k, x, y, 6, u, v, ww, r, false, res⟩ = ⟨k, x, y, 4, u, ww, ww, r, false, res⟩ := by simp [tks, Tk.fst, Tk.snd, Tk.fin, e]
        have e2 : ups up pr ⟨k, x, y, 6, u, v, ww, r, false, res⟩ = up.set v r := by simp [ups, e]
        rw [e1, e2]
        exact step_6y a b la ca cb pr up k x y u v ww r res w hp hhi hq hhi2 un vn wn rn hm e
      · have e1 : tks up pr ⟨k, x, y, 6, u, v, ww, r, false, res⟩ = ⟨k, x, y, 4, u, ww, ww, r, false, res⟩ := by simp [tks, Tk.fst, Tk.snd, Tk.fin, e]
        have e2 : ups up pr ⟨k, x, y, 6, u, v, ww, r, false, res⟩ = up := by simp [ups, e]
        rw [e1, e2]
        exact step_6n a b la ca cb pr up k x y u v ww r res w hp hhi hq hhi2 un vn wn rn hm e
    · by_cases e : el up u = u
      · have e1 : tks up pr ⟨k, x, y, 7, u, v, ww, r, false, res⟩ = ⟨k, x, y, 7, u, v, u, r, true, 0⟩ := by simp [tks, Tk.fst, Tk.snd, Tk.fin, e]
        have e2 : ups up pr ⟨k, x, y, 7, u, v, ww, r, false, res⟩ = up := by simp [ups, e]
        rw [e1, e2]
        exact step_7y a b la ca cb pr up k x y u v ww r res w hp hhi hq hhi2 un vn wn rn hm e
      · have e1 : tks up pr ⟨k, x, y, 7, u, v, ww, r, false, res⟩ = ⟨k, x, y, 1, u, v, (el up u), r, false, res⟩ := by simp [tks, Tk.fst, Tk.snd, Tk.fin, e]
        have e2 : ups up pr ⟨k, x, y, 7, u, v, ww, r, false, res⟩ = up := by simp [ups, e]
        rw [e1, e2]
        exact step_7n a b la ca cb pr up k x y u v ww r res w hp hhi hq hhi2 un vn wn rn hm e
    · by_cases hb : bel pr u v
      · by_cases e : el up u = u
        · have e1 : tks up pr ⟨k, x, y, 8, u, v, ww, r, false, res⟩ = ⟨k, x, y, 8, u, v, ww, r, true, 1⟩ := by simp [tks, Tk.fst, Tk.snd, Tk.fin, hb, e]
          have e2 : ups up pr ⟨k, x, y, 8, u, v, ww, r, false, res⟩ = up.set u v := by simp [ups, hb, e]
          rw [e1, e2]
          exact step_8by a b la ca cb pr up k x y u v ww r res w hp hhi hq hhi2 un vn wn rn hm (decide_eq_true hb) e
        · have e1 : tks up pr ⟨k, x, y, 8, u, v, ww, r, false, res⟩ = ⟨k, x, y, 1, u, v, ww, r, false, res⟩ := by simp [tks, Tk.fst, Tk.snd, Tk.fin, hb, e]
          have e2 : ups up pr ⟨k, x, y, 8, u, v, ww, r, false, res⟩ = up := by simp [ups, hb, e]
          rw [e1, e2]
          exact step_8bn a b la ca cb pr up k x y u v ww r res w hp hhi hq hhi2 un vn wn rn hm (decide_eq_true hb) e
      · by_cases e : el up v = v
        · have e1 : tks up pr ⟨k, x, y, 8, u, v, ww, r, false, res⟩ = ⟨k, x, y, 8, u, v, ww, r, true, 1⟩ := by simp [tks, Tk.fst, Tk.snd, Tk.fin, hb, e]
          have e2 : ups up pr ⟨k, x, y, 8, u, v, ww, r, false, res⟩ = up.set v u := by simp [ups, hb, e]
          rw [e1, e2]
          exact step_8ay a b la ca cb pr up k x y u v ww r res w hp hhi hq hhi2 un vn wn rn hm (decide_eq_false hb) e
        · have e1 : tks up pr ⟨k, x, y, 8, u, v, ww, r, false, res⟩ = ⟨k, x, y, 1, u, v, ww, r, false, res⟩ := by simp [tks, Tk.fst, Tk.snd, Tk.fin, hb, e]
          have e2 : ups up pr ⟨k, x, y, 8, u, v, ww, r, false, res⟩ = up := by simp [ups, hb, e]
          rw [e1, e2]
          exact step_8an a b la ca cb pr up k x y u v ww r res w hp hhi hq hhi2 un vn wn rn hm (decide_eq_false hb) e

set_option maxRecDepth 100000 in
set_option maxHeartbeats 1000000 in
theorem rstep_any (a b : Option Addr) (la ca cb : Nat) (pr : List Int) (up : List Nat) (t : Tk) (w : World) {lo hi lo2 hi2 : Nat} (I : Inv la pr up t)
    (hp : RowN lo hi w a la up) (hhi : hi ≤ w.heap.size) (hq : Row lo2 hi2 w b la pr) (hhi2 : hi2 ≤ w.heap.size) (hm : la ≤ 1000000) :
    Calls Tryd.prog 46 #[.slice a la ca, .slice b la cb, t.val] w fun e w' =>
      ∃ g c, e = .returned (stepped (.slice (some ⟨g, 0, none⟩) la c) (tks up pr t)) ∧ w.heap.size ≤ g ∧ Own w' g (ups up pr t) ∧ Below w.heap.size w w' := by
  obtain ⟨k, x, y, st, u, v, ww, r, dn, res⟩ := t
  have un := I.un
  have vn := I.vn
  have wn := I.wn
  have rn := I.rn
  have hk : k = 1 ∨ k = 2 ∨ k = 3 := by have := I.k1; have := I.k3; dsimp only at *; omega
  have hst : st = 1 ∨ st = 2 ∨ st = 3 ∨ st = 4 ∨ st = 5 ∨ st = 6 ∨ st = 7 ∨ st = 8 := by have := I.s1; have := I.s8; dsimp only at *; omega
  have kk := I.kk
  dsimp only at un vn wn rn kk
  cases dn with
  | true => exact rstep_dn a b la ca cb pr up k x y u v ww r res w hp hhi hq hhi2 un vn wn rn hm st
  | false =>
    rcases hst with rfl | rfl | rfl | rfl | rfl | rfl | rfl | rfl
    · by_cases e : el up u = u
      · by_cases h1 : k = 1
        · have e1 : tks up pr ⟨k, x, y, 1, u, v, ww, r, false, res⟩ = ⟨k, x, y, 1, u, v, u, r, true, u⟩ := by simp [tks, Tk.fst, Tk.snd, Tk.fin, e, h1]
          have e2 : ups up pr ⟨k, x, y, 1, u, v, ww, r, false, res⟩ = up := by simp [ups, e, h1]
          rw [e1, e2]
          exact rstep_1r a b la ca cb pr up k x y u v ww r res w 1 true u hp hhi hq hhi2 un vn wn rn hm e (.inl ⟨by omega, rfl, rfl, rfl⟩)
        · have e1 : tks up pr ⟨k, x, y, 1, u, v, ww, r, false, res⟩ = ⟨k, x, y, 4, u, v, u, r, false, res⟩ := by simp [tks, Tk.fst, Tk.snd, Tk.fin, e, h1]
          have e2 : ups up pr ⟨k, x, y, 1, u, v, ww, r, false, res⟩ = up := by simp [ups, e, h1]
          rw [e1, e2]
          exact rstep_1r a b la ca cb pr up k x y u v ww r res w 4 false res hp hhi hq hhi2 un vn wn rn hm e (.inr ⟨by omega, rfl, rfl, rfl⟩)
      · have e1 : tks up pr ⟨k, x, y, 1, u, v, ww, r, false, res⟩ = ⟨k, x, y, 2, u, v, (el up u), r, false, res⟩ := by simp [tks, Tk.fst, Tk.snd, Tk.fin, e]
        have e2 : ups up pr ⟨k, x, y, 1, u, v, ww, r, false, res⟩ = up := by simp [ups, e]
        rw [e1, e2]
        exact rstep_1n a b la ca cb pr up k x y u v ww r res w hp hhi hq hhi2 un vn wn rn hm e
    · by_cases e : el up ww = ww
      · by_cases h1 : k = 1
        · have e1 : tks up pr ⟨k, x, y, 2, u, v, ww, r, false, res⟩ = ⟨k, x, y, 2, ww, v, ww, ww, true, ww⟩ := by simp [tks, Tk.fst, Tk.snd, Tk.fin, e, h1]
          have e2 : ups up pr ⟨k, x, y, 2, u, v, ww, r, false, res⟩ = up := by simp [ups, e, h1]
          rw [e1, e2]
          exact rstep_2r a b la ca cb pr up k x y u v ww r res w 2 true ww hp hhi hq hhi2 un vn wn rn hm e (.inl ⟨by omega, rfl, rfl, rfl⟩)
        · have e1 : tks up pr ⟨k, x, y, 2, u, v, ww, r, false, res⟩ = ⟨k, x, y, 4, ww, v, ww, ww, false, res⟩ := by simp [tks, Tk.fst, Tk.snd, Tk.fin, e, h1]
          have e2 : ups up pr ⟨k, x, y, 2, u, v, ww, r, false, res⟩ = up := by simp [ups, e, h1]
          rw [e1, e2]
          exact rstep_2r a b la ca cb pr up k x y u v ww r res w 4 false res hp hhi hq hhi2 un vn wn rn hm e (.inr ⟨by omega, rfl, rfl, rfl⟩)
      · have e1 : tks up pr ⟨k, x, y, 2, u, v, ww, r, false, res⟩ = ⟨k, x, y, 3, u, v, ww, (el up ww), false, res⟩ := by simp [tks, Tk.fst, Tk.snd, Tk.fin, e]
        have e2 : ups up pr ⟨k, x, y, 2, u, v, ww, r, false, res⟩ = up := by simp [ups, e]
        rw [e1, e2]
        exact rstep_2n a b la ca cb pr up k x y u v ww r res w hp hhi hq hhi2 un vn wn rn hm e
    · by_cases e : el up u = ww
      · have e1 : tks up pr ⟨k, x, y, 3, u, v, ww, r, false, res⟩ = ⟨k, x, y, 1, ww, v, ww, r, false, res⟩ := by simp [tks, Tk.fst, Tk.snd, Tk.fin, e]
        have e2 : ups up pr ⟨k, x, y, 3, u, v, ww, r, false, res⟩ = up.set u r := by simp [ups, e]
        rw [e1, e2]
        exact rstep_3y a b la ca cb pr up k x y u v ww r res w hp hhi hq hhi2 un vn wn rn hm e
      · have e1 : tks up pr ⟨k, x, y, 3, u, v, ww, r, false, res⟩ = ⟨k, x, y, 1, ww, v, ww, r, false, res⟩ := by simp [tks, Tk.fst, Tk.snd, Tk.fin, e]
        have e2 : ups up pr ⟨k, x, y, 3, u, v, ww, r, false, res⟩ = up := by simp [ups, e]
        rw [e1, e2]
        exact rstep_3n a b la ca cb pr up k x y u v ww r res w hp hhi hq hhi2 un vn wn rn hm e
    · have h0 := kk (by omega)
      by_cases e : el up v = v
      · by_cases h2 : u = v
        · by_cases h1 : k = 2
          · have e1 : tks up pr ⟨k, x, y, 4, u, v, ww, r, false, res⟩ = ⟨k, x, y, 4, u, v, v, r, true, 1⟩ := by simp [tks, Tk.fst, Tk.snd, Tk.fin, e, h1, h2]
            have e2 : ups up pr ⟨k, x, y, 4, u, v, ww, r, false, res⟩ = up := by simp [ups, e, h1, h2]
            rw [e1, e2]
            exact rstep_4r a b la ca cb pr up k x y u v ww r res w 4 true 1 hp hhi hq hhi2 un vn wn rn hm e (.inl ⟨by omega, by omega, rfl, rfl, rfl⟩)
          · have e1 : tks up pr ⟨k, x, y, 4, u, v, ww, r, false, res⟩ = ⟨k, x, y, 4, u, v, v, r, true, 0⟩ := by simp [tks, Tk.fst, Tk.snd, Tk.fin, e, h1, h2]
            have e2 : ups up pr ⟨k, x, y, 4, u, v, ww, r, false, res⟩ = up := by simp [ups, e, h1, h2]
            rw [e1, e2]
            exact rstep_4r a b la ca cb pr up k x y u v ww r res w 4 true 0 hp hhi hq hhi2 un vn wn rn hm e (.inr (.inl ⟨by omega, by omega, rfl, rfl, rfl⟩))
        · by_cases h1 : k = 2
          · have e1 : tks up pr ⟨k, x, y, 4, u, v, ww, r, false, res⟩ = ⟨k, x, y, 7, u, v, v, r, false, res⟩ := by simp [tks, Tk.fst, Tk.snd, Tk.fin, e, h1, h2]
            have e2 : ups up pr ⟨k, x, y, 4, u, v, ww, r, false, res⟩ = up := by simp [ups, e, h1, h2]
            rw [e1, e2]
            exact rstep_4r a b la ca cb pr up k x y u v ww r res w 7 false res hp hhi hq hhi2 un vn wn rn hm e (.inr (.inr (.inl ⟨by omega, by omega, rfl, rfl, rfl⟩)))
          · have e1 : tks up pr ⟨k, x, y, 4, u, v, ww, r, false, res⟩ = ⟨k, x, y, 8, u, v, v, r, false, res⟩ := by simp [tks, Tk.fst, Tk.snd, Tk.fin, e, h1, h2]
            have e2 : ups up pr ⟨k, x, y, 4, u, v, ww, r, false, res⟩ = up := by simp [ups, e, h1, h2]
            rw [e1, e2]
            exact rstep_4r a b la ca cb pr up k x y u v ww r res w 8 false res hp hhi hq hhi2 un vn wn rn hm e (.inr (.inr (.inr ⟨by omega, by omega, rfl, rfl, rfl⟩)))
      · have e1 : tks up pr ⟨k, x, y, 4, u, v, ww, r, false, res⟩ = ⟨k, x, y, 5, u, v, (el up v), r, false, res⟩ := by simp [tks, Tk.fst, Tk.snd, Tk.fin, e]
        have e2 : ups up pr ⟨k, x, y, 4, u, v, ww, r, false, res⟩ = up := by simp [ups, e]
        rw [e1, e2]
        exact rstep_4n a b la ca cb pr up k x y u v ww r res w hp hhi hq hhi2 un vn wn rn hm e
    · have h0 := kk (by omega)
      by_cases e : el up ww = ww
      · by_cases h2 : u = ww
        · by_cases h1 : k = 2
          · have e1 : tks up pr ⟨k, x, y, 5, u, v, ww, r, false, res⟩ = ⟨k, x, y, 5, u, ww, ww, ww, true, 1⟩ := by simp [tks, Tk.fst, Tk.snd, Tk.fin, e, h1, h2]
            have e2 : ups up pr ⟨k, x, y, 5, u, v, ww, r, false, res⟩ = up := by simp [ups, e, h1, h2]
            rw [e1, e2]
            exact rstep_5r a b la ca cb pr up k x y u v ww r res w 5 true 1 hp hhi hq hhi2 un vn wn rn hm e (.inl ⟨by omega, by omega, rfl, rfl, rfl⟩)
          · have e1 : tks up pr ⟨k, x, y, 5, u, v, ww, r, false, res⟩ = ⟨k, x, y, 5, u, ww, ww, ww, true, 0⟩ := by simp [tks, Tk.fst, Tk.snd, Tk.fin, e, h1, h2]
            have e2 : ups up pr ⟨k, x, y, 5, u, v, ww, r, false, res⟩ = up := by simp [ups, e, h1, h2]
            rw [e1, e2]
            exact rstep_5r a b la ca cb pr up k x y u v ww r res w 5 true 0 hp hhi hq hhi2 un vn wn rn hm e (.inr (.inl ⟨by omega, by omega, rfl, rfl, rfl⟩))
        · by_cases h1 : k = 2
          · have e1 : tks up pr ⟨k, x, y, 5, u, v, ww, r, false, res⟩ = ⟨k, x, y, 7, u, ww, ww, ww, false, res⟩ := by simp [tks, Tk.fst, Tk.snd, Tk.fin, e, h1, h2]
            have e2 : ups up pr ⟨k, x, y, 5, u, v, ww, r, false, res⟩ = up := by simp [ups, e, h1, h2]
            rw [e1, e2]
            exact rstep_5r a b la ca cb pr up k x y u v ww r res w 7 false res hp hhi hq hhi2 un vn wn rn hm e (.inr (.inr (.inl ⟨by omega, by omega, rfl, rfl, rfl⟩)))
          · have e1 : tks up pr ⟨k, x, y, 5, u, v, ww, r, false, res⟩ = ⟨k, x, y, 8, u, ww, ww, ww, false, res⟩ := by simp [tks, Tk.fst, Tk.snd, Tk.fin, e, h1, h2]
            have e2 : ups up pr ⟨k, x, y, 5, u, v, ww, r, false, res⟩ = up := by simp [ups, e, h1, h2]
            rw [e1, e2]
            exact rstep_5r a b la ca cb pr up k x y u v ww r res w 8 false res hp hhi hq hhi2 un vn wn rn hm e (.inr (.inr (.inr ⟨by omega, by omega, rfl, rfl, rfl⟩)))
      · have e1 : tks up pr ⟨k, x, y, 5, u, v, ww, r, false, res⟩ = ⟨k, x, y, 6, u, v, ww, (el up ww), false, res⟩ := by simp [tks, Tk.fst, Tk.snd, Tk.fin, e]
        have e2 : ups up pr ⟨k, x, y, 5, u, v, ww, r, false, res⟩ = up := by simp [ups, e]
        rw [e1, e2]
        exact rstep_5n a b la ca cb pr up k x y u v ww r res w hp hhi hq hhi2 un vn wn rn hm e
    · by_cases e : el up v = ww
      · have e1 : tks up pr ⟨k, x, y, 6, u, v, ww, r, false, res⟩ = ⟨k, x, y, 4, u, ww, ww, r, false, res⟩ := by simp [tks, Tk.fst, Tk.snd, Tk.fin, e]
        have e2 : ups up pr ⟨k, x, y, 6, u, v, ww, r, false, res⟩ = up.set v r := by simp [ups, e]
        rw [e1, e2]
        exact rstep_6y a b la ca cb pr up k x y u v ww r res w hp hhi hq hhi2 un vn wn rn hm e
      · have e1 : tks up pr ⟨k, x, y, 6, u, v, ww, r, false, res⟩ = ⟨k, x, y, 4, u, ww, ww, r, false, res⟩ := by simp [tks, Tk.fst, Tk.snd, Tk.fin, e]
        have e2 : ups up pr ⟨k, x, y, 6, u, v, ww, r, false, res⟩ = up := by simp [ups, e]
        rw [e1, e2]
        exact rstep_6n a b la ca cb pr up k x y u v ww r res w hp hhi hq hhi2 un vn wn rn hm e
    · by_cases e : el up u = u
      · have e1 : tks up pr ⟨k, x, y, 7, u, v, ww, r, false, res⟩ = ⟨k, x, y, 7, u, v, u, r, true, 0⟩ := by simp [tks, Tk.fst, Tk.snd, Tk.fin, e]
        have e2 : ups up pr ⟨k, x, y, 7, u, v, ww, r, false, res⟩ = up := by simp [ups, e]
        rw [e1, e2]
        exact rstep_7y a b la ca cb pr up k x y u v ww r res w hp hhi hq hhi2 un vn wn rn hm e
      · have e1 : tks up pr ⟨k, x, y, 7, u, v, ww, r, false, res⟩ = ⟨k, x, y, 1, u, v, (el up u), r, false, res⟩ := by simp [tks, Tk.fst, Tk.snd, Tk.fin, e]
        have e2 : ups up pr ⟨k, x, y, 7, u, v, ww, r, false, res⟩ = up := by simp [ups, e]
        rw [e1, e2]
        exact rstep_7n a b la ca cb pr up k x y u v ww r res w hp hhi hq hhi2 un vn wn rn hm e
    · by_cases hb : bel pr u v
      · by_cases e : el up u = u
        · have e1 : tks up pr ⟨k, x, y, 8, u, v, ww, r, false, res⟩ = ⟨k, x, y, 8, u, v, ww, r, true, 1⟩ := by simp [tks, Tk.fst, Tk.snd, Tk.fin, hb, e]
          have e2 : ups up pr ⟨k, x, y, 8, u, v, ww, r, false, res⟩ = up.set u v := by simp [ups, hb, e]
          rw [e1, e2]
          exact rstep_8by a b la ca cb pr up k x y u v ww r res w hp hhi hq hhi2 un vn wn rn hm (decide_eq_true hb) e
        · have e1 : tks up pr ⟨k, x, y, 8, u, v, ww, r, false, res⟩ = ⟨k, x, y, 1, u, v, ww, r, false, res⟩ := by simp [tks, Tk.fst, Tk.snd, Tk.fin, hb, e]
          have e2 : ups up pr ⟨k, x, y, 8, u, v, ww, r, false, res⟩ = up := by simp [ups, hb, e]
          rw [e1, e2]
          exact rstep_8bn a b la ca cb pr up k x y u v ww r res w hp hhi hq hhi2 un vn wn rn hm (decide_eq_true hb) e
      · by_cases e : el up v = v
        · have e1 : tks up pr ⟨k, x, y, 8, u, v, ww, r, false, res⟩ = ⟨k, x, y, 8, u, v, ww, r, true, 1⟩ := by simp [tks, Tk.fst, Tk.snd, Tk.fin, hb, e]
          have e2 : ups up pr ⟨k, x, y, 8, u, v, ww, r, false, res⟩ = up.set v u := by simp [ups, hb, e]
          rw [e1, e2]
          exact rstep_8ay a b la ca cb pr up k x y u v ww r res w hp hhi hq hhi2 un vn wn rn hm (decide_eq_false hb) e
        · have e1 : tks up pr ⟨k, x, y, 8, u, v, ww, r, false, res⟩ = ⟨k, x, y, 1, u, v, ww, r, false, res⟩ := by simp [tks, Tk.fst, Tk.snd, Tk.fin, hb, e]
          have e2 : ups up pr ⟨k, x, y, 8, u, v, ww, r, false, res⟩ = up := by simp [ups, hb, e]
          rw [e1, e2]
          exact rstep_8an a b la ca cb pr up k x y u v ww r res w hp hhi hq hhi2 un vn wn rn hm (decide_eq_false hb) e

end Go.Proofs.YtpfcpeljfgmjgaaDoor

namespace Go.Proofs.YtpfcpeljfgmjgaaDoor
open Go.RowKit
set_option linter.unusedVariables false
set_option linter.unusedSimpArgs false

/-- A slice of bytes. -/
abbrev RowY := RowF (fun n : Nat => Value.int .u8 (n : Int)) (0 : Nat)

theorem awake_step (b1 b2 : Nat) (w : World) {lo hi : Nat} (hp : RowN lo hi w (some ⟨b1, 0, none⟩) 1 [0]) (hq : RowN lo hi w (some ⟨b2, 0, none⟩) 1 [0]) (hh : hi ≤ w.heap.size) :
    Calls Tryd.prog 73 #[.slice (some ⟨b1, 0, none⟩) 1 1, .slice (some ⟨b2, 0, none⟩) 1 1, .agg #[.int .i64 1, .int .i64 0, .int .i64 0, .int .i64 1, .int .i64 0, .int .i64 0, .int .i64 0, .int .i64 0, .bool false, .int .i64 0]] w fun e w' =>
      ∃ g c, e = .returned (.tuple #[.slice (some ⟨g, 0, none⟩) 1 c, .agg #[.int .i64 1, .int .i64 0, .int .i64 0, .int .i64 1, .int .i64 0, .int .i64 0, .int .i64 0, .int .i64 0, .bool true, .int .i64 0]]) ∧ Below w.heap.size w w' := by
  have I : Inv 1 [0] [0] ⟨1, 0, 0, 1, 0, 0, 0, 0, false, 0⟩ := inv_new (by omega) (by omega) (by omega) (by omega)
  have h := step_any (some ⟨b1, 0, none⟩) (some ⟨b2, 0, none⟩) 1 1 1 [0] [0] ⟨1, 0, 0, 1, 0, 0, 0, 0, false, 0⟩ w I hp hh hq.ints hh (by omega)
  exact h.mono fun e w' ⟨g, c, h1, _, _, h4⟩ => ⟨g, c, h1, h4⟩

theorem Tryd.opInfo : (Tryd.prog.info? 40).map (fun i => (i.zero, i.size, i.bytes)) = some (some (.agg #[.int .i64 0, .int .i64 0, .int .i64 0]), 3, 24) := by kernel_rfl

set_option maxRecDepth 100000 in
set_option maxHeartbeats 1000000 in
theorem op_any (a b c n : Nat) (w : World) (hn : 0 < n) (h6 : n ≤ 1000000) (ha : a ≤ 255) (hb : b ≤ 255) (hc : c ≤ 255) :
    Calls Tryd.prog 82 #[.int .u8 (a : Int), .int .u8 (b : Int), .int .u8 (c : Int), .int .i64 (n : Int)] w fun e w' => e = .returned (.agg #[.int .i64 ((1 + a % 3 : Nat) : Int), .int .i64 ((b % n : Nat) : Int), .int .i64 ((c % n : Nat) : Int)]) ∧ Below w.heap.size w w' := by
  have hn0 : ¬ n = 0 := by omega
  have hn1 : ((n : Int) == 0) = false := by simp; omega
  have w3 : IntKind.i64.wrap (a : Int) = (a : Int) := IntWalk.i64_in _ (by omega)
  have w4 : IntKind.i64.wrap (b : Int) = (b : Int) := IntWalk.i64_in _ (by omega)
  have w5 : IntKind.i64.wrap (c : Int) = (c : Int) := IntWalk.i64_in _ (by omega)
  obtain ⟨A, hA⟩ : ∃ A : Nat, a % 3 = A := ⟨_, rfl⟩
  obtain ⟨B, hB⟩ : ∃ B : Nat, b % n = B := ⟨_, rfl⟩
  obtain ⟨C, hC⟩ : ∃ C : Nat, c % n = C := ⟨_, rfl⟩
  have v1 : (a : Int).tmod 3 = (A : Int) := by rw [← hA]; exact (Int.ofNat_tmod a 3).symm
  have v2 : (b : Int).tmod (n : Int) = (B : Int) := by rw [← hB]; exact (Int.ofNat_tmod b n).symm
  have v3 : (c : Int).tmod (n : Int) = (C : Int) := by rw [← hC]; exact (Int.ofNat_tmod c n).symm
  have b1 : A < 3 := by omega
  have b2 : B < n := by rw [← hB]; exact Nat.mod_lt _ hn
  have b3 : C < n := by rw [← hC]; exact Nat.mod_lt _ hn
  have v4 : IntKind.i64.wrap (A : Int) = (A : Int) := IntWalk.i64_in _ (by omega)
  have v5 : IntKind.i64.wrap (B : Int) = (B : Int) := IntWalk.i64_in _ (by omega)
  have v6 : IntKind.i64.wrap (C : Int) = (C : Int) := IntWalk.i64_in _ (by omega)
  have v7 : IntKind.i64.wrap (1 + (A : Int)) = 1 + (A : Int) := IntWalk.i64_in _ (by omega)
  rw [hA, hB, hC]
  have eA : ((1 + A : Nat) : Int) = 1 + (A : Int) := by omega
  rw [eA]
  clear hA hB hC eA
  go_enter Tryd.func82, Tryd.ntmps82
  go_wp2_with fail
  go_region
  go_wp2_with fail
  refine bodyPost_ret (v := .agg #[.int .i64 (1 + (A : Int)), .int .i64 (B : Int), .int .i64 (C : Int)]) (by simp only [results, Tryd.results82]; go_simp) rfl ⟨rfl, ?_⟩
  exact ((Below.refl _ _).alloc (Nat.le_refl _) _).drew

set_option maxRecDepth 100000 in
set_option maxHeartbeats 1000000 in
theorem prio_any (a : Option Addr) (la ca : Nat) (ns : List Nat) (n : Nat) (w : World) {lo hi : Nat} (hp : RowY lo hi w a la ns) (hby : ∀ i, i < la → ns.getD i 0 ≤ 255) (hhi : hi ≤ w.heap.size) (hl : la ≤ 9223372036854775807) (hn : n ≤ 1000) :
    Calls Tryd.prog 16 #[.slice a la ca, .int .i64 (n : Int)] w fun e w' => ∃ g pr, e = .returned (.slice (some ⟨g, 0, none⟩) n n) ∧ w.heap.size ≤ g ∧ Row w.heap.size w'.heap.size w' (some ⟨g, 0, none⟩) n pr ∧ Below w.heap.size w w' := by
  obtain ⟨i0, hi0, hz0, hz1, hz2⟩ := info_parts Tryd.info3
  have HP := Lib.hid hp
  have HB := Lib.hid hby
  clear hp hby
  go_enter Tryd.func16, Tryd.ntmps16
  go_wp2_with (at_make; refine wpList_make_full _ rfl _ _ 22 rfl w.heap.size 3 i0 (.int .i64 0) 1 Tryd.underlying22 hi0 hz0 hz1 _ _ _ _ n rfl rfl rfl rfl ?m1 ?m2 ?m3 ?_)
  case m1 => rw [hz2]; omega
  case m2 => unfold maxLen; omega
  case m3 => simp
  intro w1 hown hgr
  rw [toList_madeCells_one] at hown
  have hb1 : Below w.heap.size w w1 := (Below.refl _ _).grown hgr (Nat.le_refl _) (by simp)
  clear hgr
  go_wp2_with fail
  go_loopw [6] (fun i wr => ∃ (k : Nat) (xs : List Int), k ≤ n ∧ i = .int .i64 (k : Int) ∧ wr.ownsRow w.heap.size 3 1 (.slice (some ⟨w.heap.size, 0, none⟩) n n) n (xs.map (Value.int .i64)) ∧ Below w.heap.size w wr) (fun i _ => n - (intOf i).toNat)
  case atStart => exact ⟨0, List.replicate n 0, Nat.zero_le _, rfl, by simpa using hown, hb1⟩
  case round =>
    clear hown hb1
    obtain ⟨k, xs, hk, rfl, hown, hb⟩ := hrel
    have hxl : xs.length = n := by have := hown.1; simpa using this
    by_cases hlt : k < n
    · by_cases h0 : 0 < la
      · obtain ⟨b, off, rfl, _, hbb, hc⟩ := HP.out.2.resolve_left (by omega)
        obtain ⟨r, hr⟩ : ∃ r : Nat, k % la = r := ⟨_, rfl⟩
        have hrl : r < la := by rw [← hr]; exact Nat.mod_lt _ h0
        have cr := (hb.cell (p := ⟨b, off + r, none⟩) (by show b < _; omega)).trans (hc r hrl)
        have br := HB.out r hrl
        generalize ns.getD r 0 = y at *
        have hs := hb.size
        have hg2 := (hown.lt w.heap.size rfl).2
        have ck := (hown.cellAt k (by omega)).trans (show (xs.map (Value.int .i64))[k]? = some (.int .i64 (xs.getD k 0)) by simp [List.getD, show k < xs.length by omega])
        have fk := hown.frozenAt k
        have hst := (hown.stored k (.int .i64 ((y % 5 : Nat) : Int))).1
        have e5 : (xs.map (Value.int .i64)).set k (.int .i64 ((y % 5 : Nat) : Int)) = (xs.set k ((y % 5 : Nat) : Int)).map (Value.int .i64) := by rw [List.map_set]
        rw [e5] at hst
        have HST := Lib.hid hst
        have HOWN := Lib.hid hown
        have hla0 : ((la : Int) == 0) = false := by simp; omega
        have hbw : b < wr.heap.size := by omega
        have w1' : ((k : Int) % (la : Int)) = (r : Int) := by rw [← hr]; rfl
        have w2' : (y : Int) % 5 = ((y % 5 : Nat) : Int) := rfl
        obtain ⟨z, hz⟩ : ∃ z : Nat, y % 5 = z := ⟨_, rfl⟩
        rw [hz] at w2' HST
        have hr0 : (0 : Int) ≤ r := by omega
        have hr1 : (r : Int) < la := by omega
        generalize xs.getD k 0 = q at *
        clear hst hown e5 hc hr hz hxl
        go_wp2_with fail
        go_roundw
        case rel => exact ⟨k + 1, _, by omega, by go_num, HST.out, hb.setCell (Nat.le_refl _) _⟩
        case measure => simp [intOf]; omega
      · obtain rfl : la = 0 := by omega
        go_wp2_with fail
        go_ret
        have h2 := RowF.of_owns (f := Value.int .i64) (d := (0 : Int)) (xs := xs) (by rw [hxl]; exact hown)
        rw [hxl] at h2
        obtain ⟨a', c', e', hr⟩ := h2
        cases e'
        exact ⟨_, xs, rfl, Nat.le_refl _, hr, hb⟩
    · obtain rfl : k = n := by omega
      go_wp2_with fail
      go_ret
      have h2 := RowF.of_owns (f := Value.int .i64) (d := (0 : Int)) (xs := xs) (by rw [hxl]; exact hown)
      rw [hxl] at h2
      obtain ⟨a', c', e', hr⟩ := h2
      cases e'
      exact ⟨_, xs, rfl, Nat.le_refl _, hr, hb⟩

end Go.Proofs.YtpfcpeljfgmjgaaDoor

namespace Go.Proofs.YtpfcpeljfgmjgaaDoor
open Go.RowKit
set_option linter.unusedVariables false
set_option linter.unusedSimpArgs false

/-- How many elements New makes. -/
def cutN (n : Int) : Nat := (min (max n 0) 65536).toNat
theorem cutN_le (n : Int) : cutN n ≤ 65536 := by unfold cutN; omega
theorem cutN_cast (n : Int) : ((cutN n : Nat) : Int) = min (max n 0) 65536 := by unfold cutN; omega
theorem cutN_nat {n : Nat} (h : n ≤ 65536) : cutN n = n := by unfold cutN; omega

set_option maxRecDepth 100000 in
theorem rnew_any (n : Int) (w : World) :
    Calls Tryd.prog 42 #[.int .i64 n] w fun e w' => ∃ a c, e = .returned (.slice a (cutN n) c) ∧ RowN w.heap.size w'.heap.size w' a (cutN n) (List.range (cutN n)) ∧ (a = none → c = 0) ∧ Below w.heap.size w w' := by
  obtain ⟨i0, hi0, hz0, hz1, hz2⟩ := info_parts Tryd.info3
  obtain ⟨c, hc⟩ : ∃ c, Hid (c = cutN n) := ⟨_, rfl⟩
  have hc0 : c ≤ 65536 := by rw [hc.out]; exact cutN_le n
  have hcc : Hid ((c : Int) = min (max n 0) 65536) := by rw [hc.out]; exact cutN_cast n
  rw [← hc.out]
  go_enter Tryd.func42, Tryd.ntmps42
  go_wp2
  go_loopw [3, 4] (fun v i wr => ∃ k : Nat, k ≤ c ∧ i = .int .i64 k ∧ wr.ownsRow w.heap.size 3 1 v k (intsOf (List.range k)) ∧ Below w.heap.size w wr) (fun _ i _ => c - (intOf i).toNat)
  case atStart => exact ⟨0, Nat.zero_le _, rfl, World.ownsRow_nil _ _ _ _, Below.refl _ _⟩
  case round =>
    obtain ⟨k, hk, rfl, hown, hb⟩ := hrel
    by_cases hlt : k < c
    · have h1 : (k : Int) < n := by have := hcc.out; omega
      have h2 : (k : Int) < 65536 := by omega
      have hs := hb.size
      go_wp2_with (at_builtin; refine wpList_append_own _ rfl _ _ 22 rfl w.heap.size 3 i0 (.int .i64 0) 1 8 Tryd.underlying22 hi0 hz0 hz1 hz2 rfl (by decide) _ k (intsOf (List.range k)) rfl (hown.alloc _) ⟨wr.heap.size, 0, none⟩ 1 1 [.int .i64 k] rfl rfl ?c1 ?c2 ?c3 ?c4 ?c5 ?_)
      case c1 =>
        intro j u hj
        match j, hj with
        | 0, hj => simp at hj; subst hj; simp [Addr.add]
      case c2 => intro u hu; simp at hu; subst hu; rfl
      case c3 => unfold maxLen; omega
      case c4 => omega
      case c5 => simp; omega
      intro v' w4 hown4 hgr4 _
      have hb4 : Below w.heap.size w w4 := (hb.alloc (by omega) _).grown hgr4 (by simp; omega) (fun j hj => (hown.lt j hj).1)
      have e : intsOf (List.range k) ++ [.int .i64 (k : Int)] = intsOf (List.range (k + 1)) := by simp [intsOf, List.range_succ]
      rw [e] at hown4
      clear hgr4 e hown
      go_wp2_with fail
      go_roundw
      case rel => exact ⟨k + 1, by omega, by go_num, hown4, hb4⟩
      case measure => simp [intOf]; omega
    · obtain rfl : k = c := by omega
      by_cases h1 : (k : Int) < n
      · have h2 : ¬ (k : Int) < 65536 := by have := hcc.out; omega
        go_wp2_with fail
        go_ret
        obtain ⟨a', c', rfl, hr, hnl⟩ := RowF.owned hown (by simp)
        exact ⟨_, _, rfl, hr, hnl, hb⟩
      · go_wp2_with fail
        go_ret
        obtain ⟨a', c', rfl, hr, hnl⟩ := RowF.owned hown (by simp)
        exact ⟨_, _, rfl, hr, hnl, hb⟩


/-- Operations that may begin on n elements. -/
def okO (n : Nat) (q : Nat × Nat × Nat) : Prop := 1 ≤ q.1 ∧ q.1 ≤ 3 ∧ q.2.1 < n ∧ q.2.2 < n
def cellsO (os : List (Nat × Nat × Nat)) : List Value := os.flatMap fun q => [.int .i64 (q.1 : Int), .int .i64 (q.2.1 : Int), .int .i64 (q.2.2 : Int)]
theorem cellsO_length : ∀ os : List (Nat × Nat × Nat), (cellsO os).length = os.length * 3
  | [] => rfl
  | q :: r => by have := cellsO_length r; unfold cellsO at *; simp [List.flatMap_cons, this]; omega
theorem cellsO_snoc (os : List (Nat × Nat × Nat)) (a b c : Nat) : cellsO (os ++ [(a, b, c)]) = cellsO os ++ [.int .i64 (a : Int), .int .i64 (b : Int), .int .i64 (c : Int)] := by
  unfold cellsO; simp [List.flatMap_append]
theorem cellsO_at : ∀ (os : List (Nat × Nat × Nat)) (i : Nat), i < os.length → (cellsO os)[i * 3]? = some (.int .i64 ((os.getD i (0, 0, 0)).1 : Int)) ∧ (cellsO os)[i * 3 + 1]? = some (.int .i64 ((os.getD i (0, 0, 0)).2.1 : Int)) ∧ (cellsO os)[i * 3 + 2]? = some (.int .i64 ((os.getD i (0, 0, 0)).2.2 : Int))
  | q :: r, 0, _ => by simp [cellsO, List.flatMap_cons]
  | q :: r, i + 1, h => by
    have ih := cellsO_at r i (by simpa using h)
    have e : (i + 1) * 3 = i * 3 + 1 + 1 + 1 := by omega
    unfold cellsO at *
    rw [List.flatMap_cons, e]
    simpa using ih

/-- A slice of operations that may begin. -/
def OpsOf (base la n : Nat) (w : World) (v : Value) : Prop := ∃ (m : Nat) (os : List (Nat × Nat × Nat)), m ≤ la ∧ w.ownsRow base 40 3 v m (cellsO os) ∧ ∀ q ∈ os, okO n q

theorem op_v (a b c n A B C : Nat) (w : World) (hn : 0 < n) (h6 : n ≤ 1000000) (ha : a ≤ 255) (hb : b ≤ 255) (hc : c ≤ 255) (hA : 1 + a % 3 = A) (hB : b % n = B) (hC : c % n = C) :
    Calls Tryd.prog 82 #[.int .u8 (a : Int), .int .u8 (b : Int), .int .u8 (c : Int), .int .i64 (n : Int)] w fun e w' => e = .returned (.agg #[.int .i64 (A : Int), .int .i64 (B : Int), .int .i64 (C : Int)]) ∧ Below w.heap.size w w' := by
  subst hA hB hC
  exact op_any a b c n w hn h6 ha hb hc

set_option maxRecDepth 100000 in
set_option maxHeartbeats 2000000 in
theorem ops_any (a : Option Addr) (la ca : Nat) (ns : List Nat) (n : Nat) (w : World) {lo hi : Nat} (hp : RowY lo hi w a la ns) (hby : ∀ i, i < la → ns.getD i 0 ≤ 255) (hhi : hi ≤ w.heap.size) (hm : la ≤ 1000) (hn0 : 0 < n) (hn : n ≤ 1000) :
    Calls Tryd.prog 47 #[.slice a la ca, .int .i64 (n : Int)] w fun e w' => ∃ v, e = .returned v ∧ OpsOf w.heap.size la n w' v ∧ Below w.heap.size w w' := by
  obtain ⟨i0, hi0, hz0, hz1, hz2⟩ := info_parts Tryd.opInfo
  have HP := Lib.hid hp
  have HB := Lib.hid hby
  have h0i : (0 : Int) < n := by omega
  clear hp hby
  go_enter Tryd.func47, Tryd.ntmps47
  go_wp2_with fail
  go_loopw [5, 6] (fun v i wr => ∃ (k : Nat) (os : List (Nat × Nat × Nat)), k * 3 ≤ la ∧ i = .int .i64 (k * 3 : Nat) ∧ wr.ownsRow w.heap.size 40 3 v k (cellsO os) ∧ Hid (∀ q ∈ os, okO n q) ∧ Below w.heap.size w wr) (fun _ i _ => la - (intOf i).toNat)
  case atStart => exact ⟨0, [], by omega, rfl, World.ownsRow_nil _ _ _ _, fun q hq => absurd hq (by simp), Below.refl _ _⟩
  case round =>
    obtain ⟨k, os, hk, rfl, hown, hok, hb⟩ := hrel
    obtain ⟨j, hj⟩ : ∃ j, j = k * 3 := ⟨_, rfl⟩
    by_cases hlt : k * 3 + 2 < la
    · obtain ⟨b, off, rfl, _, hbb, hc⟩ := HP.out.2.resolve_left (by omega)
      have d1 := hc j (by omega)
      have d2 := hc (j + 1) (by omega)
      have d3 := hc (j + 2) (by omega)
      have b1 := HB.out j (by omega)
      have b2 := HB.out (j + 1) (by omega)
      have b3 := HB.out (j + 2) (by omega)
      have hs := hb.size
      have hbw : b < wr.heap.size := by omega
      rw [← hj]
      generalize ns.getD j 0 = x at *
      generalize ns.getD (j + 1) 0 = y at *
      generalize ns.getD (j + 2) 0 = z at *
      have hj1 : j + 1 < la := by omega
      have hj2 : (j : Int) + 1 < la := by omega
      have hj3 : (0 : Int) ≤ (j : Int) + 1 := by omega
      have hj4 : (0 : Int) ≤ (j : Int) := by omega
      have hj5 : (j : Int) < la := by omega
      have hj6 : j < la := by omega
      have hj7 : j + 2 < la := by omega
      have hj8 : (j : Int) + 2 < la := by omega
      have hj9 : (0 : Int) ≤ (j : Int) + 2 := by omega
      have HJ := Lib.hid hj
      clear hc hj
      have w1 : IntKind.i64.wrap ((j : Int) + 1) = (j : Int) + 1 := IntWalk.i64_in _ (by omega)
      have w2 : ((j : Int) + 1).toNat = j + 1 := by omega
      have w3 : IntKind.i64.wrap ((j : Int) + 2) = (j : Int) + 2 := IntWalk.i64_in _ (by omega)
      have w4 : ((j : Int) + 2).toNat = j + 2 := by omega
      obtain ⟨A, hA⟩ : ∃ A : Nat, 1 + x % 3 = A := ⟨_, rfl⟩
      obtain ⟨B, hB⟩ : ∃ B : Nat, y % n = B := ⟨_, rfl⟩
      obtain ⟨C, hC⟩ : ∃ C : Nat, z % n = C := ⟨_, rfl⟩
      have HOK : Hid (∀ q ∈ os ++ [(A, B, C)], okO n q) := by
        intro q hq
        rcases List.mem_append.1 hq with h | h
        · exact hok.out q h
        · simp at h; subst h
          have := Nat.mod_lt y hn0
          have := Nat.mod_lt z hn0
          refine ⟨by show 1 ≤ A; omega, by show A ≤ 3; omega, by show B < n; omega, by show C < n; omega⟩
      have HOP : Hid (∀ w', Calls Tryd.prog 82 #[.int .u8 (x : Int), .int .u8 (y : Int), .int .u8 (z : Int), .int .i64 (n : Int)] w' fun e w'' => e = .returned (.agg #[.int .i64 (A : Int), .int .i64 (B : Int), .int .i64 (C : Int)]) ∧ Below w'.heap.size w' w'') := fun w' => op_v x y z n A B C w' hn0 (by omega) b1 b2 b3 hA hB hC
      have K : ∀ w', Below w.heap.size w w' → (Below w.heap.size w w' ∧ w'.cell? ⟨b, off + j, none⟩ = some (.int .u8 (x : Int)) ∧ w'.cell? ⟨b, off + (j + 1), none⟩ = some (.int .u8 (y : Int)) ∧ w'.cell? ⟨b, off + (j + 2), none⟩ = some (.int .u8 (z : Int))) := fun w' h =>
        ⟨h, (h.cell (p := ⟨b, off + j, none⟩) (by show b < _; omega)).trans d1, (h.cell (p := ⟨b, off + (j + 1), none⟩) (by show b < _; omega)).trans d2, (h.cell (p := ⟨b, off + (j + 2), none⟩) (by show b < _; omega)).trans d3⟩
      have HK := Lib.hid K
      have HBW := Lib.hid hb
      have HOWN := Lib.hid hown.drew
      have HV : Hid (∀ q, u5.ownBlock = some q → w.heap.size ≤ q) := fun q hq => (hown.lt q hq).1
      have HNEWS : Hid (∀ (W : World) (q : Nat) (u : Value), [Value.int .i64 (A : Int), Value.int .i64 (B : Int), Value.int .i64 (C : Int)][q]? = some u → (W.alloc (.cells #[.int .i64 (A : Int), .int .i64 (B : Int), .int .i64 (C : Int)] 40)).cell? (Addr.add ⟨W.heap.size, 0, none⟩ q) = some u) := by
        intro W q u hq
        match q, hq with
        | 0, hq => simp at hq; subst hq; simp [Addr.add]
        | 1, hq => simp at hq; subst hq; simp [Addr.add]
        | 2, hq => simp at hq; subst hq; simp [Addr.add]
      have HONE : Hid (∀ u ∈ [Value.int .i64 (A : Int), Value.int .i64 (B : Int), Value.int .i64 (C : Int)], u.oneCell' = true) := by
        intro u hu; simp at hu; rcases hu with rfl | rfl | rfl <;> rfl
      have q1 : k + 1 ≤ maxLen := by unfold maxLen; omega
      have q2 : (k + 1) * 24 ≤ 140737488355328 := by omega
      have Q1 := Lib.hid q1
      have Q2 := Lib.hid q2
      have HS := Lib.hid hs
      have Q3 : Hid (∀ W : World, wr.heap.size ≤ W.heap.size → w.heap.size ≤ (W.alloc (.cells #[.int .i64 (A : Int), .int .i64 (B : Int), .int .i64 (C : Int)] 40)).heap.size) := fun W hW => by simp; have := HS.out; omega
      clear K hb hown q1 q2 d1 d2 d3 hA hB hC hok b1 b2 b3
      go_wp2_with fail
      go_region_held3 (fun w' => Below w.heap.size w w' ∧ w'.cell? ⟨b, off + j, none⟩ = some (.int .u8 (x : Int)) ∧ w'.cell? ⟨b, off + (j + 1), none⟩ = some (.int .u8 (y : Int)) ∧ w'.cell? ⟨b, off + (j + 2), none⟩ = some (.int .u8 (z : Int)))
        (first
          | exact HK.out _ HBW.out.drew
          | exact HK.out _ (below_next HBW.out.drew hbz HS.out)
          | exact HK.out _ (below_next (And.left (by assumption)) hbz (Nat.le_refl _))
          | exact HK.out _ (below_alloc (And.left (by assumption)) (Nat.le_refl _) _)
          | exact HK.out _ (below_grown (And.left (by assumption)) hgrow (Nat.le_refl _) HV.out))
        (first
          | (go_at_call 82; (with_reducible refine (HOP.out _).mono ?_); rintro e wz ⟨rfl, hbz⟩)
          | (refine step_append_lies _ rfl _ _ _ rfl w.heap.size 40 i0 (.agg #[.int .i64 0, .int .i64 0, .int .i64 0]) 3 24 Tryd.underlying43 hi0 hz0 hz1 hz2 rfl (by decide) _ k (cellsO os) rfl ((ownsRow_below HOWN.out hbz).alloc _) ⟨wz.heap.size, 0, none⟩ 1 1 [.int .i64 (A : Int), .int .i64 (B : Int), .int .i64 (C : Int)] rfl rfl (HNEWS.out _) HONE.out (by decide) Q1.out Q2.out (Q3.out _ hbz.size) _ rfl ?_; intro g cap w9 hown9 hgrow hat hlt9))
      have hb9 : Below w.heap.size w w9 := And.left (by assumption)
      have e9 : cellsO os ++ [.int .i64 (A : Int), .int .i64 (B : Int), .int .i64 (C : Int)] = cellsO (os ++ [(A, B, C)]) := (cellsO_snoc _ _ _ _).symm
      rw [e9] at hown9
      clear hgrow hat e9
      go_wp2_with fail
      go_roundw
      case rel => exact ⟨k + 1, _, by have := HJ.out; omega, by have := HJ.out; go_num, hown9, HOK, hb9⟩
      case measure => simp [intOf]; omega
    · have hge : ¬ ((k * 3 : Nat) : Int) + 2 < la := by omega
      go_wp2_with fail
      go_ret
      exact ⟨_, rfl, ⟨k, os, by omega, hown, hok.out⟩, hb⟩

end Go.Proofs.YtpfcpeljfgmjgaaDoor
