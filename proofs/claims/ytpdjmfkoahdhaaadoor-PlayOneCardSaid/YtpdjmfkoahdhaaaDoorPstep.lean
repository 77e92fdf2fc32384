/- Contracts of both Steps, whatever the task, Y of a find being any number. -/
import Derived.Test.YtpdjmfkoahdhaaaDoorCstep
import Derived.Test.YtpdjmfkoahdhaaaDoorCjb
import Derived.Test.YtpdjmfkoahdhaaaDoorCjc
import Derived.Test.YtpdjmfkoahdhaaaDoorPlaym
namespace Go.Proofs.YtpdjmfkoahdhaaaDoor
open Go.RowKit
set_option linter.unusedVariables false
set_option linter.unusedSimpArgs false

/-- V of a task: of a find it is Y all along. -/
def tV (t : Tk) (y : Int) : Int := if t.k = 1 then y else t.v
def tcells (t : Tk) (y : Int) : List Value := [.int .i64 (t.k : Int), .int .i64 (t.x : Int), .int .i64 y, .int .i64 (t.st : Int), .int .i64 (t.u : Int), .int .i64 (tV t y), .int .i64 (t.w : Int), .int .i64 (t.r : Int), .bool t.dn, .int .i64 (t.res : Int)]

set_option maxRecDepth 100000 in
set_option maxHeartbeats 1000000 in
theorem gstep_any (a b : Option Addr) (la ca cb : Nat) (pr : List Int) (up : List Nat) (t : Tk) (y : Int) (w : World) {lo hi lo2 hi2 : Nat} (I : Inv la pr up t) (hy : t.k ≠ 1 → y = (t.y : Int))
    (hp : RowN lo hi w a la up) (hhi : hi ≤ w.heap.size) (hq : Row lo2 hi2 w b la pr) (hhi2 : hi2 ≤ w.heap.size) (hm : la ≤ 1000000) (hdn : t.dn = false) :
    Calls Tryd.prog 39 #[.slice a la ca, .slice b la cb, .agg (tcells t y).toArray] w fun e w' =>
      ∃ g c, e = .returned (.tuple #[.slice (some ⟨g, 0, none⟩) la c, .agg (tcells (tks up pr t) y).toArray]) ∧ w.heap.size ≤ g ∧ Own w' g (ups up pr t) ∧ Below w.heap.size w w' := by
  by_cases hk : t.k = 1
  · have un := I.un
    have wn := I.wn
    have rn := I.rn
    have s1 := I.s1
    have kk := I.kk
    obtain ⟨k, x, y0, st, u, v, ww, r, dn, res⟩ := t
    dsimp only at un wn rn hk s1 kk hdn
    subst hk hdn
    have hst : st = 1 ∨ st = 2 ∨ st = 3 := by
      have : ¬ 4 ≤ st := fun h => kk h rfl
      omega
    rcases hst with rfl | rfl | rfl
    · by_cases e : el up u = u
      · have e1 : tks up pr ⟨1, x, y0, 1, u, v, ww, r, false, res⟩ = ⟨1, x, y0, 1, u, v, u, r, true, u⟩ := by simp [tks, Tk.fst, Tk.fin, e]
        have e2 : ups up pr ⟨1, x, y0, 1, u, v, ww, r, false, res⟩ = up := by simp [ups]
        rw [e1, e2]
        exact jstep_1r a b la ca cb pr up 1 x y u y ww r res w 1 true u hp hhi hq hhi2 un wn rn hm e (.inl ⟨by omega, rfl, rfl, rfl⟩)
      · have e1 : tks up pr ⟨1, x, y0, 1, u, v, ww, r, false, res⟩ = ⟨1, x, y0, 2, u, v, (el up u), r, false, res⟩ := by simp [tks, e]
        have e2 : ups up pr ⟨1, x, y0, 1, u, v, ww, r, false, res⟩ = up := by simp [ups]
        rw [e1, e2]
        exact jstep_1n a b la ca cb pr up 1 x y u y ww r res w hp hhi hq hhi2 un wn rn hm e
    · by_cases e : el up ww = ww
      · have e1 : tks up pr ⟨1, x, y0, 2, u, v, ww, r, false, res⟩ = ⟨1, x, y0, 2, ww, v, ww, ww, true, ww⟩ := by simp [tks, Tk.fst, Tk.fin, e]
        have e2 : ups up pr ⟨1, x, y0, 2, u, v, ww, r, false, res⟩ = up := by simp [ups]
        rw [e1, e2]
        exact jstep_2r a b la ca cb pr up 1 x y u y ww r res w 2 true ww hp hhi hq hhi2 un wn rn hm e (.inl ⟨by omega, rfl, rfl, rfl⟩)
      · have e1 : tks up pr ⟨1, x, y0, 2, u, v, ww, r, false, res⟩ = ⟨1, x, y0, 3, u, v, ww, (el up ww), false, res⟩ := by simp [tks, e]
        have e2 : ups up pr ⟨1, x, y0, 2, u, v, ww, r, false, res⟩ = up := by simp [ups]
        rw [e1, e2]
        exact jstep_2n a b la ca cb pr up 1 x y u y ww r res w hp hhi hq hhi2 un wn rn hm e
    · have e1 : tks up pr ⟨1, x, y0, 3, u, v, ww, r, false, res⟩ = ⟨1, x, y0, 1, ww, v, ww, r, false, res⟩ := by simp [tks]
      by_cases e : el up u = ww
      · have e2 : ups up pr ⟨1, x, y0, 3, u, v, ww, r, false, res⟩ = up.set u r := by simp [ups, e]
        rw [e1, e2]
        exact jstep_3y a b la ca cb pr up 1 x y u y ww r res w hp hhi hq hhi2 un wn rn hm e
      · have e2 : ups up pr ⟨1, x, y0, 3, u, v, ww, r, false, res⟩ = up := by simp [ups, e]
        rw [e1, e2]
        exact jstep_3n a b la ca cb pr up 1 x y u y ww r res w hp hhi hq hhi2 un wn rn hm e
  · have h := step_any a b la ca cb pr up t w I hp hhi hq hhi2 hm
    have e := tks_keeps up pr t
    have e1 : (tcells t y).toArray = t.cells.toArray := by simp [tcells, Tk.cells, tV, hk, hy hk]
    have e2 : (tcells (tks up pr t) y).toArray = (tks up pr t).cells.toArray := by simp [tcells, Tk.cells, tV, e.1, e.2.2, hk, hy hk]
    rw [e1, e2]
    exact h

set_option maxRecDepth 100000 in
set_option maxHeartbeats 1000000 in
theorem rgstep_any (a b : Option Addr) (la ca cb : Nat) (pr : List Int) (up : List Nat) (t : Tk) (y : Int) (w : World) {lo hi lo2 hi2 : Nat} (I : Inv la pr up t) (hy : t.k ≠ 1 → y = (t.y : Int))
    (hp : RowN lo hi w a la up) (hhi : hi ≤ w.heap.size) (hq : Row lo2 hi2 w b la pr) (hhi2 : hi2 ≤ w.heap.size) (hm : la ≤ 1000000) (hdn : t.dn = false) :
    Calls Tryd.prog 31 #[.slice a la ca, .slice b la cb, .agg (tcells t y).toArray] w fun e w' =>
      ∃ g c, e = .returned (.agg (.slice (some ⟨g, 0, none⟩) la c :: tcells (tks up pr t) y).toArray) ∧ w.heap.size ≤ g ∧ Own w' g (ups up pr t) ∧ Below w.heap.size w w' := by
  by_cases hk : t.k = 1
  · have un := I.un
    have wn := I.wn
    have rn := I.rn
    have s1 := I.s1
    have kk := I.kk
    obtain ⟨k, x, y0, st, u, v, ww, r, dn, res⟩ := t
    dsimp only at un wn rn hk s1 kk hdn
    subst hk hdn
    have hst : st = 1 ∨ st = 2 ∨ st = 3 := by
      have : ¬ 4 ≤ st := fun h => kk h rfl
      omega
    rcases hst with rfl | rfl | rfl
    · by_cases e : el up u = u
      · have e1 : tks up pr ⟨1, x, y0, 1, u, v, ww, r, false, res⟩ = ⟨1, x, y0, 1, u, v, u, r, true, u⟩ := by simp [tks, Tk.fst, Tk.fin, e]
        have e2 : ups up pr ⟨1, x, y0, 1, u, v, ww, r, false, res⟩ = up := by simp [ups]
        rw [e1, e2]
        exact jrstep_1r a b la ca cb pr up 1 x y u y ww r res w 1 true u hp hhi hq hhi2 un wn rn hm e (.inl ⟨by omega, rfl, rfl, rfl⟩)
      · have e1 : tks up pr ⟨1, x, y0, 1, u, v, ww, r, false, res⟩ = ⟨1, x, y0, 2, u, v, (el up u), r, false, res⟩ := by simp [tks, e]
        have e2 : ups up pr ⟨1, x, y0, 1, u, v, ww, r, false, res⟩ = up := by simp [ups]
        rw [e1, e2]
        exact jrstep_1n a b la ca cb pr up 1 x y u y ww r res w hp hhi hq hhi2 un wn rn hm e
    · by_cases e : el up ww = ww
      · have e1 : tks up pr ⟨1, x, y0, 2, u, v, ww, r, false, res⟩ = ⟨1, x, y0, 2, ww, v, ww, ww, true, ww⟩ := by simp [tks, Tk.fst, Tk.fin, e]
        have e2 : ups up pr ⟨1, x, y0, 2, u, v, ww, r, false, res⟩ = up := by simp [ups]
        rw [e1, e2]
        exact jrstep_2r a b la ca cb pr up 1 x y u y ww r res w 2 true ww hp hhi hq hhi2 un wn rn hm e (.inl ⟨by omega, rfl, rfl, rfl⟩)
      · have e1 : tks up pr ⟨1, x, y0, 2, u, v, ww, r, false, res⟩ = ⟨1, x, y0, 3, u, v, ww, (el up ww), false, res⟩ := by simp [tks, e]
        have e2 : ups up pr ⟨1, x, y0, 2, u, v, ww, r, false, res⟩ = up := by simp [ups]
        rw [e1, e2]
        exact jrstep_2n a b la ca cb pr up 1 x y u y ww r res w hp hhi hq hhi2 un wn rn hm e
    · have e1 : tks up pr ⟨1, x, y0, 3, u, v, ww, r, false, res⟩ = ⟨1, x, y0, 1, ww, v, ww, r, false, res⟩ := by simp [tks]
      by_cases e : el up u = ww
      · have e2 : ups up pr ⟨1, x, y0, 3, u, v, ww, r, false, res⟩ = up.set u r := by simp [ups, e]
        rw [e1, e2]
        exact jrstep_3y a b la ca cb pr up 1 x y u y ww r res w hp hhi hq hhi2 un wn rn hm e
      · have e2 : ups up pr ⟨1, x, y0, 3, u, v, ww, r, false, res⟩ = up := by simp [ups, e]
        rw [e1, e2]
        exact jrstep_3n a b la ca cb pr up 1 x y u y ww r res w hp hhi hq hhi2 un wn rn hm e
  · have h := rstep_any a b la ca cb pr up t w I hp hhi hq hhi2 hm
    have e := tks_keeps up pr t
    have e1 : (tcells t y).toArray = t.cells.toArray := by simp [tcells, Tk.cells, tV, hk, hy hk]
    have e2 : tcells (tks up pr t) y = (tks up pr t).cells := by simp [tcells, Tk.cells, tV, e.1, e.2.2, hk, hy hk]
    rw [e1, e2]
    exact h

end Go.Proofs.YtpdjmfkoahdhaaaDoor
