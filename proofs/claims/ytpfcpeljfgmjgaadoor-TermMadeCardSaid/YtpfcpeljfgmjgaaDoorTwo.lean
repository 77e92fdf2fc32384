/- Words on worlds: all but two blocks is as it was (Two); small words on Below; cuts of slices. No program but its types. -/
import Derived.Test.YtpfcpeljfgmjgaaDoorBase
namespace Go.Proofs.YtpfcpeljfgmjgaaDoor
open Go.RowKit
open Go.ChangeMaps (setBlock)
set_option linter.unusedVariables false
set_option linter.unusedSimpArgs false

theorem below_drewN' {B : Nat} {w w' : World} (h : Below B w w') (n : Nat) : Below B w (w'.drewN n) := ⟨h.os, h.tape, h.output, h.size, h.block⟩
theorem below_alloc {B : Nat} {w w' : World} (h : Below B w w') (hB : B ≤ w.heap.size) (o : Obj) : Below B w (w'.alloc o) := h.alloc (Nat.le_trans hB h.size) o
theorem below_grown {B : Nat} {w w' w'' : World} {row : Option Nat} (h : Below B w w') (hg : w'.grownBy w'' row) (hB : B ≤ w.heap.size) (hr : ∀ q, row = some q → B ≤ q) : Below B w w'' := h.grown hg (Nat.le_trans hB h.size) hr
theorem below_next {B : Nat} {w w' w'' : World} (h : Below B w w') (k : Below w'.heap.size w' w'') (hB : B ≤ w.heap.size) : Below B w w'' := h.trans (k.mono (Nat.le_trans hB h.size))
theorem below_set3' {B b : Nat} {w wz : World} {v0 v1 v2 : Value} (h : Below B w wz) (hb : B ≤ b) : Below B w (((wz.setCell ⟨b, 0, none⟩ v0).setCell ⟨b, 1, none⟩ v1).setCell ⟨b, 2, none⟩ v2) := ((h.setCell (p := ⟨b, 0, none⟩) hb v0).setCell (p := ⟨b, 1, none⟩) hb v1).setCell (p := ⟨b, 2, none⟩) hb v2
theorem RowF.drewN' {α : Type} {f : α → Value} {d : α} {lo hi : Nat} {w : World} {a : Option Addr} {len : Nat} {xs : List α} (h : RowF f d lo hi w a len xs) (n : Nat) : RowF f d lo hi (w.drewN n) a len xs := h
theorem Box.drewN' {w : World} {b : Nat} {t : TypeId} {cs : List Value} (h : Box w b t cs) (n : Nat) : Box (w.drewN n) b t cs := h
theorem size_drewN' (w : World) (n : Nat) : (w.drewN n).heap.size = w.heap.size := rfl

/-- All but two blocks is as it was. -/
structure Two (b1 b2 : Nat) (w w' : World) : Prop where
  os : w'.os = w.os
  tape : w'.tape = w.tape
  output : w'.output = w.output
  size : w.heap.size ≤ w'.heap.size
  block : ∀ k, k < w.heap.size → k ≠ b1 → k ≠ b2 → w'.heap[k]? = w.heap[k]?

theorem heap_setBlock_ne {w : World} {r k : Nat} {o : Obj} (h : k ≠ r) : (setBlock w r o).heap[k]? = w.heap[k]? := by
  unfold setBlock
  simp [Array.getElem?_setIfInBounds, Ne.symm h]
theorem heap_setBlock_eq {w : World} {r : Nat} {o : Obj} (h : r < w.heap.size) : (setBlock w r o).heap[r]? = some o := by
  unfold setBlock
  simp [h]
theorem size_setBlock (w : World) (r : Nat) (o : Obj) : (setBlock w r o).heap.size = w.heap.size := by
  unfold setBlock; simp

section
variable {b1 b2 : Nat} {w w' w'' : World}
theorem Two.refl (b1 b2 : Nat) (w : World) : Two b1 b2 w w := ⟨rfl, rfl, rfl, Nat.le_refl _, fun _ _ _ _ => rfl⟩
theorem Two.trans (h : Two b1 b2 w w') (k : Two b1 b2 w' w'') : Two b1 b2 w w'' :=
  ⟨k.os.trans h.os, k.tape.trans h.tape, k.output.trans h.output, Nat.le_trans h.size k.size, fun i hi h1 h2 => (k.block i (Nat.lt_of_lt_of_le hi h.size) h1 h2).trans (h.block i hi h1 h2)⟩
theorem Two.alloc (h : Two b1 b2 w w') (o : Obj) : Two b1 b2 w (w'.alloc o) :=
  ⟨h.os, h.tape, h.output, Nat.le_trans h.size (by simp), fun i hi h1 h2 => (Below.heap_alloc _ _ _ (Nat.lt_of_lt_of_le hi h.size)).trans (h.block i hi h1 h2)⟩
theorem Two.drew (h : Two b1 b2 w w') : Two b1 b2 w w'.drew := ⟨h.os, h.tape, h.output, h.size, h.block⟩
theorem Two.drewN (h : Two b1 b2 w w') (n : Nat) : Two b1 b2 w (w'.drewN n) := ⟨h.os, h.tape, h.output, h.size, h.block⟩
theorem Two.setCell (h : Two b1 b2 w w') {p : Addr} (hp : p.block = b1 ∨ p.block = b2) (u : Value) : Two b1 b2 w (w'.setCell p u) :=
  ⟨h.os, h.tape, h.output, by simpa using h.size, fun i hi h1 h2 => (Below.heap_setCell _ _ _ _ (by rcases hp with e | e <;> rw [e] <;> assumption)).trans (h.block i hi h1 h2)⟩
theorem Two.setBlock (h : Two b1 b2 w w') {r : Nat} (hr : r = b1 ∨ r = b2) (o : Obj) : Two b1 b2 w (setBlock w' r o) :=
  ⟨h.os, h.tape, h.output, by rw [size_setBlock]; exact h.size, fun i hi h1 h2 => (heap_setBlock_ne (by rcases hr with e | e <;> rw [e] <;> assumption)).trans (h.block i hi h1 h2)⟩
theorem Two.below (h : Two b1 b2 w w') {B : Nat} (hb : B ≤ w.heap.size) (h1 : B ≤ b1) (h2 : B ≤ b2) : Below B w w' :=
  ⟨h.os, h.tape, h.output, h.size, fun k hk => h.block k (by omega) (by omega) (by omega)⟩
theorem Two.box (h : Two b1 b2 w w') {b : Nat} {t : TypeId} {cs : List Value} (hb : Box w b t cs) (h1 : b ≠ b1) (h2 : b ≠ b2) : Box w' b t cs := (h.block b hb.lt h1 h2).trans hb
theorem Two.swap (h : Two b1 b2 w w') : Two b2 b1 w w' := ⟨h.os, h.tape, h.output, h.size, fun k a b c => h.block k a c b⟩
theorem Two.one {g b : Nat} {w w' : World} (h : Two g b w w') (hb : w.heap.size ≤ b) : Two g g w w' := ⟨h.os, h.tape, h.output, h.size, fun k hk h1 _ => h.block k hk h1 (by omega)⟩
theorem Two.setNew (h : Two b1 b2 w w') {p : Addr} (hp : w.heap.size ≤ p.block) (u : Value) : Two b1 b2 w (w'.setCell p u) :=
  ⟨h.os, h.tape, h.output, by simpa using h.size, fun i hi h1 h2 => (Below.heap_setCell _ _ _ _ (by omega)).trans (h.block i hi h1 h2)⟩
theorem Two.belowNew (h : Two b1 b2 w w') (hb : Below w'.heap.size w' w'') : Two b1 b2 w w'' :=
  ⟨hb.os.trans h.os, hb.tape.trans h.tape, hb.output.trans h.output, Nat.le_trans h.size hb.size, fun i hi h1 h2 => (hb.block i (Nat.lt_of_lt_of_le hi h.size)).trans (h.block i hi h1 h2)⟩
theorem Two.set (h : Two b1 b2 w w') (b o : Nat) (hb : b = b1 ∨ b = b2) (v : Value) : Two b1 b2 w (w'.setCell ⟨b, o, none⟩ v) := h.setCell (p := ⟨b, o, none⟩) hb v
theorem Two.wide {b : Nat} (h : Two b b w w') (hb : b = b1 ∨ b = b2) : Two b1 b2 w w' := ⟨h.os, h.tape, h.output, h.size, fun k hk h1 h2 => h.block k hk (by omega) (by omega)⟩
theorem Two.of_below (h : Below w.heap.size w w') : Two b1 b2 w w' := ⟨h.os, h.tape, h.output, h.size, fun k hk _ _ => h.block k hk⟩
theorem Two.below' (h : Two b1 b2 w w') {B : Nat} (hb : Below B w' w'') (hw : w.heap.size ≤ B) : Two b1 b2 w w'' :=
  ⟨hb.os.trans h.os, hb.tape.trans h.tape, hb.output.trans h.output, Nat.le_trans h.size hb.size, fun i hi h1 h2 => (hb.block i (Nat.lt_of_lt_of_le hi hw)).trans (h.block i hi h1 h2)⟩
end

end Go.Proofs.YtpfcpeljfgmjgaaDoor
