/- Lemmas for the walks of this seat: a slice read in memory (RowF; of integers: Row; of bools: RowB; of words: RowU), a block of known cells (Box), append to a slice of the call's own. Words on worlds: all but two blocks is as it was (Two); small words on Below; cuts of slices. No program but its types. Words on memory: lists of k-celled things in a slice (Sl), rows in a block (RowsIn); stores of whole structs; rows that a call owns. No program. Mathematics of partitions that tell of each element the least one of its class: no program. Contracts of the document's Ints and of slices.Clone of ints; words for the walks of this seat. -/
import Derived.WalkKit
import Derived.WalkLawsBesides
import Derived.WalkSpells
import Derived.Outline
import Derived.Deep.QuietTactic
import Derived.BigQuiet
import Derived.BigRegion
import Derived.RegionTactic
import Derived.ChangeAlike
import Derived.Handy
import Derived.Laws.AppendOwnNone
import Derived.BigFrame
import Derived.Lib.Hide
import Derived.Deep.MidRow
import Derived.Deep.OwnRows
import Derived.Deep.AppendLies
import Init
import Derived.Test.YtpfcpeljfgmjgaaDoorProg
namespace Go.Proofs.YtpfcpeljfgmjgaaDoor
open Go.RowKit

/-- A slice's value reads as these elements, each a cell; its cells lie in a block from 'lo' on, ahead of 'hi'. -/
def RowF {α : Type} (f : α → Value) (d : α) (lo hi : Nat) (w : World) (a : Option Addr) (len : Nat) (xs : List α) : Prop :=
  xs.length = len ∧ (len = 0 ∨ ∃ b off, a = some ⟨b, off, none⟩ ∧ lo ≤ b ∧ b < hi ∧ ∀ i, i < len → w.cell? ⟨b, off + i, none⟩ = some (f (xs.getD i d)))

abbrev Row := RowF (Value.int .i64) (0 : Int)
abbrev RowB := RowF Value.bool false
abbrev RowU := RowF (fun n : Nat => Value.int .u64 n) 0

theorem take_succ_eq {xs ys : List Int} {k : Nat} (hx : k < xs.length) (hy : k < ys.length) (h : xs.take k = ys.take k) (he : xs.getD k 0 = ys.getD k 0) : xs.take (k + 1) = ys.take (k + 1) := by
  have e : ∀ {zs : List Int}, k < zs.length → zs.take (k + 1) = zs.take k ++ [zs.getD k 0] := by
    intro zs hk
    rw [List.take_add_one, List.getElem?_eq_getElem hk]; simp [List.getD, hk]
  rw [e hx, e hy, h, he]

theorem RowF.of_owns {α : Type} {f : α → Value} {d : α} {w : World} {base e : Nat} {v : Value} {xs : List α} (h : w.ownsRow base e 1 v xs.length (xs.map f)) : ∃ a c, v = .slice a xs.length c ∧ RowF f d base w.heap.size w a xs.length xs := by
  obtain ⟨_, h | ⟨g, cap, cur, rfl, hb, hg, hn, hcap, hsz, ht⟩⟩ := h
  · obtain ⟨rfl, h⟩ := h
    exact ⟨none, 0, by rw [h], rfl, .inl h⟩
  · refine ⟨_, _, rfl, rfl, .inr ⟨g, 0, rfl, hb, (Array.getElem?_eq_some_iff.1 hg).1, fun i hi => ?_⟩⟩
    rw [Nat.zero_add, cell_of_row w g i cur e (0, 0) hg]
    have : (xs.map f)[i]? = some (f (xs.getD i d)) := by simp [hi]
    rw [← ht, List.getElem?_take] at this
    split at this
    · simpa using this
    · cases this

section
variable {α : Type} {f : α → Value} {d : α} {lo hi lo' hi' : Nat} {w w' : World} {a : Option Addr} {len : Nat} {xs : List α}

theorem RowF.agree (h : RowF f d lo hi w a len xs) (hb : ∀ k, lo ≤ k → k < hi → w'.heap[k]? = w.heap[k]?) : RowF f d lo hi w' a len xs := by
  obtain ⟨h1, h2 | ⟨b, off, rfl, hl, hh, hc⟩⟩ := h
  · exact ⟨h1, .inl h2⟩
  · exact ⟨h1, .inr ⟨b, off, rfl, hl, hh, fun i hi => (World.cell?_of_block (hb b hl hh)).trans (hc i hi)⟩⟩

theorem RowF.below (h : RowF f d lo hi w a len xs) {B : Nat} (hb : Below B w w') (hh : hi ≤ B) : RowF f d lo hi w' a len xs := h.agree fun k _ hk => hb.block k (by omega)

theorem RowF.set (h : RowF f d lo hi w a len xs) {p : Addr} (hp : p.block < lo ∨ hi ≤ p.block) (u : Value) : RowF f d lo hi (w.setCell p u) a len xs := h.agree fun k h1 h2 => Below.heap_setCell w p u k (by omega)

theorem RowF.alloc (h : RowF f d lo hi w a len xs) (hh : hi ≤ w.heap.size) (o : Obj) : RowF f d lo hi (w.alloc o) a len xs := h.agree fun k _ h2 => Below.heap_alloc w o k (by omega)

theorem RowF.drew (h : RowF f d lo hi w a len xs) : RowF f d lo hi w.drew a len xs := h

theorem RowF.grown (h : RowF f d lo hi w a len xs) {row : Option Nat} (hg : w.grownBy w' row) (hh : hi ≤ w.heap.size) (hr : ∀ k, row = some k → k < lo ∨ hi ≤ k) : RowF f d lo hi w' a len xs :=
  h.agree fun k h1 h2 => hg.block k (by omega) (fun e => by have := hr k e.symm; omega)

theorem RowF.mono (h : RowF f d lo hi w a len xs) (hl : lo' ≤ lo) (hh : hi ≤ hi') : RowF f d lo' hi' w a len xs := by
  obtain ⟨h1, h2 | ⟨b, off, rfl, hlb, hbb, hc⟩⟩ := h
  · exact ⟨h1, .inl h2⟩
  · exact ⟨h1, .inr ⟨b, off, rfl, by omega, by omega, hc⟩⟩

theorem RowF.news {a : Addr} (hx : RowF f d lo hi w (some a) len xs) : ∀ j u, (xs.map f)[j]? = some u → w.cell? (a.add j) = some u := by
  intro j u hu
  obtain ⟨hl, h | ⟨b, off, h, _, hbb, hc⟩⟩ := hx
  · have : xs = [] := List.length_eq_zero_iff.1 (by omega)
    subst this; simp at hu
  · cases h
    have hj : j < len := by have := (List.getElem?_eq_some_iff.1 hu).1; simp at this; omega
    rw [Addr.add_lit, hc j hj]
    rw [List.getElem?_map, List.getElem?_eq_getElem (by omega)] at hu
    simp at hu
    simp [List.getD, List.getElem?_eq_getElem (show j < xs.length by omega), hu]

theorem RowF.nil_len (hx : RowF f d lo hi w none len xs) : len = 0 := by
  obtain ⟨_, h | ⟨_, _, h, _⟩⟩ := hx
  · exact h
  · cases h
end

theorem after {W w1 : World} (hb : Below W.heap.size W w1) : (∀ b o, b < W.heap.size → w1.cell? ⟨b, o, none⟩ = W.cell? ⟨b, o, none⟩) ∧ (∀ b o, b < W.heap.size → w1.frozen? ⟨b, o, none⟩ = W.frozen? ⟨b, o, none⟩) :=
  ⟨fun b o h => hb.cell (p := ⟨b, o, none⟩) h, fun b o h => hb.frozen (p := ⟨b, o, none⟩) h⟩

theorem ownsRow_below {w w' : World} {base : Nat} {e : TypeId} {size : Nat} {v : Value} {n : Nat} {xs : List Value} (h : w.ownsRow base e size v n xs) (hb : Below w.heap.size w w') : w'.ownsRow base e size v n xs :=
  h.kept (row := none) ⟨hb.os, hb.tape, hb.output, hb.size, fun k hk _ => hb.block k hk⟩ (by cases v.ownBlock <;> simp)

/-- Block b holds just these cells, none of them frozen. -/
def Box (w : World) (b : Nat) (t : TypeId) (cs : List Value) : Prop := w.heap[b]? = some (.cells cs.toArray t (0, 0))

section
variable {w w' : World} {b : Nat} {t : TypeId} {cs : List Value}
theorem Box.cell (h : Box w b t cs) (i : Nat) : w.cell? ⟨b, i, none⟩ = cs[i]? := by
  unfold Box at h; simp [World.cell?, h]
theorem Box.frozen (h : Box w b t cs) (i : Nat) : w.frozen? ⟨b, i, none⟩ = false := by
  unfold Box at h; simp [World.frozen?, h]
theorem Box.lt (h : Box w b t cs) : b < w.heap.size := (Array.getElem?_eq_some_iff.1 h).1
theorem Box.below (h : Box w b t cs) (hb : Below w.heap.size w w') : Box w' b t cs := (hb.block b h.lt).trans h
theorem Box.new (w : World) (t : TypeId) (cs : List Value) : Box (w.alloc (.cells cs.toArray t)) w.heap.size t cs := by
  unfold Box World.alloc; simp
theorem Box.alloc (h : Box w b t cs) (o : Obj) : Box (w.alloc o) b t cs := (Below.heap_alloc w o b h.lt).trans h
theorem Box.set (h : Box w b t cs) (i : Nat) (u : Value) : Box (w.setCell ⟨b, i, none⟩ u) b t (cs.set i u) := by
  unfold Box at *
  simp [World.setCell, Array.getElem?_modify, h]
theorem Box.setOther (h : Box w b t cs) {a : Addr} (ha : b ≠ a.block) (u : Value) : Box (w.setCell a u) b t cs := (Below.heap_setCell w a u b ha).trans h
theorem Box.drew (h : Box w b t cs) : Box w.drew b t cs := h
theorem Box.grown (h : Box w b t cs) {row : Option Nat} (hg : w.grownBy w' row) (hne : some b ≠ row) : Box w' b t cs := (hg.block b h.lt hne).trans h
theorem Box.one {c0 : Value} (h : Box w b t [c0]) : w.cell? ⟨b, 0, none⟩ = some c0 ∧ w.frozen? ⟨b, 0, none⟩ = false := ⟨h.cell 0, h.frozen 0⟩
theorem Box.two {c0 c1 : Value} (h : Box w b t [c0, c1]) : w.cell? ⟨b, 0, none⟩ = some c0 ∧ w.cell? ⟨b, 1, none⟩ = some c1 ∧ w.frozen? ⟨b, 0, none⟩ = false ∧ w.frozen? ⟨b, 1, none⟩ = false := ⟨h.cell 0, h.cell 1, h.frozen 0, h.frozen 1⟩
theorem Box.three {c0 c1 c2 : Value} (h : Box w b t [c0, c1, c2]) : w.cell? ⟨b, 0, none⟩ = some c0 ∧ w.cell? ⟨b, 1, none⟩ = some c1 ∧ w.cell? ⟨b, 2, none⟩ = some c2 ∧ w.frozen? ⟨b, 0, none⟩ = false ∧ w.frozen? ⟨b, 1, none⟩ = false ∧ w.frozen? ⟨b, 2, none⟩ = false :=
  ⟨h.cell 0, h.cell 1, h.cell 2, h.frozen 0, h.frozen 1, h.frozen 2⟩
end

/-- 'append' to a slice of the call's own, whatever is appended (nil, too), guarded or not. -/
theorem wpList_append_any {P : Program} {w : World} {ops : Array Oper} {rest : List Oper} {o : Oper} {a : Act} {Q : Exit → Act → World → Prop} (hw : Region.wanted o (yielded ops a.tmps) = true) (s x : Operand) (t : TypeId)
    (ho : o.op = .call { callee := .builtin .append, args := #[s, x], argTypes := #[t, t] })
    (base : Nat) (e : TypeId) (i : TypeInfo) (z : Value) (size bytes : Nat) (ht : P.underlying t = some (.slice e)) (hi : P.info? e = some i) (hz : i.zero = some z)
    (hsize : i.size = size) (hby : i.bytes = bytes) (hzs : z.cells.size = size) (hsz : 0 < size)
    (v : Value) (n : Nat) (xs : List Value) (hs : a.eval s = v) (hown : w.ownsRow base e size v n xs)
    (ao : Option Addr) (m c : Nat) (news : List Value) (hx : a.eval x = .slice ao m c) (hnil : ao = none → m = 0 ∧ c = 0) (hl : news.length = m * size)
    (hnews : ∀ ad, ao = some ad → ∀ j u, news[j]? = some u → w.cell? (ad.add j) = some u) (h1 : ∀ u ∈ news, u.oneCell' = true)
    (h63 : n + m ≤ maxLen) (hbytes : (n + m) * bytes ≤ 140737488355328) (hbase : base ≤ w.heap.size)
    (h : ∀ v' w', w'.ownsRow base e size v' (n + m) (xs ++ news) → w.grownBy w' v.ownBlock → wpList P ops Q rest (a.put o.dst v') w') : wpList P ops Q (o :: rest) a w := by
  refine BigFrame.wpList_want hw fun K hK => ?_
  cases ao with
  | some ad => exact wp_append_own (w := w) s x t ho base e i z size bytes ht hi hz hsize hby hzs hsz v n xs hs hown ad m c news hx hl (hnews ad rfl) h1 h63 hbytes hbase (fun v' w' h2 h3 _ => hK _ _ (h v' w' h2 h3))
  | none =>
    obtain ⟨rfl, rfl⟩ := hnil rfl
    obtain rfl : news = [] := List.eq_nil_of_length_eq_zero (by simpa using hl)
    have hrun := run_append_owned_none (P := P) (w := w) base t o.type e i size ht hi v n xs hown
    unfold Oper.wp
    simp [execOp, ho, resolve, invoke, builtin, hs, hx, hrun, Result.andThen]
    exact hK _ _ (h v w (by simpa using hown) (World.grownBy.refl _ _))

end Go.Proofs.YtpfcpeljfgmjgaaDoor

namespace Go.Proofs.YtpfcpeljfgmjgaaDoor
open Go.RowKit
open Go.ChangeMaps (setBlock)
set_option linter.unusedVariables false
set_option linter.unusedSimpArgs false

theorem below_drewN' {B : Nat} {w w' : World} (h : Below B w w') (n : Nat) : Below B w (w'.drewN n) := ⟨h.os, h.tape, h.output, h.size, h.block⟩
theorem below_alloc {B : Nat} {w w' : World} (h : Below B w w') (hB : B ≤ w.heap.size) (o : Obj) : Below B w (w'.alloc o) := h.alloc (Nat.le_trans hB h.size) o
theorem below_grown {B : Nat} {w w' w'' : World} {row : Option Nat} (h : Below B w w') (hg : w'.grownBy w'' row) (hB : B ≤ w.heap.size) (hr : ∀ q, row = some q → B ≤ q) : Below B w w'' := h.grown hg (Nat.le_trans hB h.size) hr
theorem below_next {B : Nat} {w w' w'' : World} (h : Below B w w') (k : Below w'.heap.size w' w'') (hB : B ≤ w.heap.size) : Below B w w'' := h.trans (k.mono (Nat.le_trans hB h.size))
theorem below_set3' {B b : Nat} {w wz : World} {v0 v1 v2 : Value} (h : Below B w wz) (hb : B ≤ b) : Below B w (((wz.setCell ⟨b, 0, none⟩ v0).setCell ⟨b, 1, none⟩ v1).setCell ⟨b, 2, none⟩ v2) := ((h.setCell (p := ⟨b, 0, none⟩) hb v0).setCell (p := ⟨b, 1, none⟩) hb v1).setCell (p := ⟨b, 2, none⟩) hb v2
theorem RowF.drewN' {α : Type} {f : α → Value} {d : α} {lo hi : Nat} {w : World} {a : Option Addr} {len : Nat} {xs : List α} (h : RowF f d lo hi w a len xs) (n : Nat) : RowF f d lo hi (w.drewN n) a len xs := h
theorem Box.drewN' {w : World} {b : Nat} {t : TypeId} {cs : List Value} (h : Box w b t cs) (n : Nat) : Box (w.drewN n) b t cs := h
theorem size_drewN' (w : World) (n : Nat) : (w.drewN n).heap.size = w.heap.size := rfl

/-- All but two blocks is as it was. -/
structure Two (b1 b2 : Nat) (w w' : World) : Prop where
  os : w'.os = w.os
  tape : w'.tape = w.tape
  output : w'.output = w.output
  size : w.heap.size ≤ w'.heap.size
  block : ∀ k, k < w.heap.size → k ≠ b1 → k ≠ b2 → w'.heap[k]? = w.heap[k]?

theorem heap_setBlock_ne {w : World} {r k : Nat} {o : Obj} (h : k ≠ r) : (setBlock w r o).heap[k]? = w.heap[k]? := by
  unfold setBlock
  simp [Array.getElem?_setIfInBounds, Ne.symm h]
theorem heap_setBlock_eq {w : World} {r : Nat} {o : Obj} (h : r < w.heap.size) : (setBlock w r o).heap[r]? = some o := by
  unfold setBlock
  simp [h]
theorem size_setBlock (w : World) (r : Nat) (o : Obj) : (setBlock w r o).heap.size = w.heap.size := by
  unfold setBlock; simp

section
variable {b1 b2 : Nat} {w w' w'' : World}
theorem Two.refl (b1 b2 : Nat) (w : World) : Two b1 b2 w w := ⟨rfl, rfl, rfl, Nat.le_refl _, fun _ _ _ _ => rfl⟩
theorem Two.trans (h : Two b1 b2 w w') (k : Two b1 b2 w' w'') : Two b1 b2 w w'' :=
  ⟨k.os.trans h.os, k.tape.trans h.tape, k.output.trans h.output, Nat.le_trans h.size k.size, fun i hi h1 h2 => (k.block i (Nat.lt_of_lt_of_le hi h.size) h1 h2).trans (h.block i hi h1 h2)⟩
theorem Two.alloc (h : Two b1 b2 w w') (o : Obj) : Two b1 b2 w (w'.alloc o) :=
  ⟨h.os, h.tape, h.output, Nat.le_trans h.size (by simp), fun i hi h1 h2 => (Below.heap_alloc _ _ _ (Nat.lt_of_lt_of_le hi h.size)).trans (h.block i hi h1 h2)⟩
theorem Two.drew (h : Two b1 b2 w w') : Two b1 b2 w w'.drew := ⟨h.os, h.tape, h.output, h.size, h.block⟩
theorem Two.drewN (h : Two b1 b2 w w') (n : Nat) : Two b1 b2 w (w'.drewN n) := ⟨h.os, h.tape, h.output, h.size, h.block⟩
theorem Two.setCell (h : Two b1 b2 w w') {p : Addr} (hp : p.block = b1 ∨ p.block = b2) (u : Value) : Two b1 b2 w (w'.setCell p u) :=
  ⟨h.os, h.tape, h.output, by simpa using h.size, fun i hi h1 h2 => (Below.heap_setCell _ _ _ _ (by rcases hp with e | e <;> rw [e] <;> assumption)).trans (h.block i hi h1 h2)⟩
theorem Two.setBlock (h : Two b1 b2 w w') {r : Nat} (hr : r = b1 ∨ r = b2) (o : Obj) : Two b1 b2 w (setBlock w' r o) :=
  ⟨h.os, h.tape, h.output, by rw [size_setBlock]; exact h.size, fun i hi h1 h2 => (heap_setBlock_ne (by rcases hr with e | e <;> rw [e] <;> assumption)).trans (h.block i hi h1 h2)⟩
theorem Two.below (h : Two b1 b2 w w') {B : Nat} (hb : B ≤ w.heap.size) (h1 : B ≤ b1) (h2 : B ≤ b2) : Below B w w' :=
  ⟨h.os, h.tape, h.output, h.size, fun k hk => h.block k (by omega) (by omega) (by omega)⟩
theorem Two.box (h : Two b1 b2 w w') {b : Nat} {t : TypeId} {cs : List Value} (hb : Box w b t cs) (h1 : b ≠ b1) (h2 : b ≠ b2) : Box w' b t cs := (h.block b hb.lt h1 h2).trans hb
theorem Two.swap (h : Two b1 b2 w w') : Two b2 b1 w w' := ⟨h.os, h.tape, h.output, h.size, fun k a b c => h.block k a c b⟩
theorem Two.one {g b : Nat} {w w' : World} (h : Two g b w w') (hb : w.heap.size ≤ b) : Two g g w w' := ⟨h.os, h.tape, h.output, h.size, fun k hk h1 _ => h.block k hk h1 (by omega)⟩
theorem Two.setNew (h : Two b1 b2 w w') {p : Addr} (hp : w.heap.size ≤ p.block) (u : Value) : Two b1 b2 w (w'.setCell p u) :=
  ⟨h.os, h.tape, h.output, by simpa using h.size, fun i hi h1 h2 => (Below.heap_setCell _ _ _ _ (by omega)).trans (h.block i hi h1 h2)⟩
theorem Two.belowNew (h : Two b1 b2 w w') (hb : Below w'.heap.size w' w'') : Two b1 b2 w w'' :=
  ⟨hb.os.trans h.os, hb.tape.trans h.tape, hb.output.trans h.output, Nat.le_trans h.size hb.size, fun i hi h1 h2 => (hb.block i (Nat.lt_of_lt_of_le hi h.size)).trans (h.block i hi h1 h2)⟩
theorem Two.set (h : Two b1 b2 w w') (b o : Nat) (hb : b = b1 ∨ b = b2) (v : Value) : Two b1 b2 w (w'.setCell ⟨b, o, none⟩ v) := h.setCell (p := ⟨b, o, none⟩) hb v
theorem Two.wide {b : Nat} (h : Two b b w w') (hb : b = b1 ∨ b = b2) : Two b1 b2 w w' := ⟨h.os, h.tape, h.output, h.size, fun k hk h1 h2 => h.block k hk (by omega) (by omega)⟩
theorem Two.of_below (h : Below w.heap.size w w') : Two b1 b2 w w' := ⟨h.os, h.tape, h.output, h.size, fun k hk _ _ => h.block k hk⟩
theorem Two.below' (h : Two b1 b2 w w') {B : Nat} (hb : Below B w' w'') (hw : w.heap.size ≤ B) : Two b1 b2 w w'' :=
  ⟨hb.os.trans h.os, hb.tape.trans h.tape, hb.output.trans h.output, Nat.le_trans h.size hb.size, fun i hi h1 h2 => (hb.block i (Nat.lt_of_lt_of_le hi hw)).trans (h.block i hi h1 h2)⟩
end

end Go.Proofs.YtpfcpeljfgmjgaaDoor

namespace Go.Proofs.YtpfcpeljfgmjgaaDoor
open Go.RowKit
set_option linter.unusedVariables false
set_option linter.unusedSimpArgs false

/-- Cells of a list of k-celled things that lie from off on in block b. -/
def At (k : Nat) (w : World) (b off : Nat) (xs : List (List Value)) : Prop := ∀ (i : Nat) (x : List Value), xs[i]? = some x → ∀ (j : Nat) (v : Value), x[j]? = some v → w.cell? ⟨b, off + i * k + j, none⟩ = some v
theorem At.agree {k b off : Nat} {w w' : World} {xs : List (List Value)} (h : At k w b off xs) (hb : w'.heap[b]? = w.heap[b]?) : At k w' b off xs := fun i x hx j v hv => (World.cell?_of_block hb).trans (h i x hx j v hv)
theorem At.tail {k b off : Nat} {w : World} {x : List Value} {xs : List (List Value)} (h : At k w b off (x :: xs)) : At k w b (off + k) xs := fun i y hy j v hv => by
  have := h (i + 1) y (by simpa using hy) j v hv
  rwa [show off + (i + 1) * k + j = off + k + i * k + j by rw [Nat.add_mul]; omega] at this
/-- A slice of k-celled things, read in memory. -/
def Sl (k : Nat) (lo hi : Nat) (w : World) (a : Option Addr) (n : Nat) (xs : List (List Value)) : Prop :=
  xs.length = n ∧ (n = 0 ∨ ∃ b off, a = some ⟨b, off, none⟩ ∧ lo ≤ b ∧ b < hi ∧ At k w b off xs)
theorem Sl.agree {k lo hi n : Nat} {w w' : World} {a : Option Addr} {xs : List (List Value)} (h : Sl k lo hi w a n xs) (hb : ∀ b, lo ≤ b → b < hi → w'.heap[b]? = w.heap[b]?) : Sl k lo hi w' a n xs := by
  obtain ⟨h1, h2 | ⟨b, off, rfl, hl, hh, hc⟩⟩ := h
  · exact ⟨h1, .inl h2⟩
  · exact ⟨h1, .inr ⟨b, off, rfl, hl, hh, hc.agree (hb b hl hh)⟩⟩
theorem Sl.below {k lo hi n B : Nat} {w w' : World} {a : Option Addr} {xs : List (List Value)} (h : Sl k lo hi w a n xs) (hb : Below B w w') (hh : hi ≤ B) : Sl k lo hi w' a n xs := h.agree fun b _ hb' => hb.block b (by omega)
theorem Sl.mono {k lo hi lo' hi' n : Nat} {w : World} {a : Option Addr} {xs : List (List Value)} (h : Sl k lo hi w a n xs) (hl : lo' ≤ lo) (hh : hi ≤ hi') : Sl k lo' hi' w a n xs := by
  obtain ⟨h1, h2 | ⟨b, off, rfl, hlb, hbb, hc⟩⟩ := h
  · exact ⟨h1, .inl h2⟩
  · exact ⟨h1, .inr ⟨b, off, rfl, by omega, by omega, hc⟩⟩
/-- A flat row of k-celled things, thing by thing. -/
theorem flat_at {α : Type} {k : Nat} {f : α → List Value} (hk : ∀ x, (f x).length = k) : ∀ (l : List α) (i : Nat) (x : List Value), (l.map f)[i]? = some x → ∀ (j : Nat) (v : Value), x[j]? = some v → (l.flatMap f)[i * k + j]? = some v
  | q :: r, 0, x, hx, j, v, hv => by
    simp at hx; subst hx
    have hj : j < k := by have := (List.getElem?_eq_some_iff.1 hv).1; rwa [hk] at this
    rw [List.flatMap_cons, List.getElem?_append_left (by rw [hk]; omega)]
    simpa using hv
  | q :: r, i + 1, x, hx, j, v, hv => by
    have ih := flat_at hk r i x (by simpa using hx) j v hv
    rw [List.flatMap_cons, List.getElem?_append_right (by rw [hk, Nat.add_mul]; omega), hk, ← ih]
    congr 1
    rw [Nat.add_mul]; omega
theorem flat_length {α : Type} {k : Nat} {f : α → List Value} (hk : ∀ x, (f x).length = k) : ∀ (l : List α), (l.flatMap f).length = l.length * k
  | [] => by simp
  | q :: r => by rw [List.flatMap_cons, List.length_append, hk, flat_length hk r, List.length_cons, Nat.add_mul]; omega
theorem Sl.of_owns {α : Type} {k base n : Nat} {e : TypeId} {f : α → List Value} (hk : ∀ x, (f x).length = k) {w : World} {v : Value} {l : List α} (h : w.ownsRow base e k v n (l.flatMap f)) (hl : l.length = n) : ∃ a c, v = .slice a n c ∧ n ≤ c ∧ Sl k base w.heap.size w a n (l.map f) := by
  obtain ⟨_, ⟨rfl, h0⟩ | ⟨g, cap, cur, rfl, hb, hg, hcap, _, hsz, ht⟩⟩ := h
  · exact ⟨none, 0, by rw [h0], by omega, by simpa using hl, .inl h0⟩
  · refine ⟨_, _, rfl, hcap, by simpa using hl, .inr ⟨g, 0, rfl, hb, (Array.getElem?_eq_some_iff.1 hg).1, fun i x hx j u hu => ?_⟩⟩
    have h1 := flat_at hk l i x hx j u hu
    have hi : i < n := by have := (List.getElem?_eq_some_iff.1 hx).1; simp at this; omega
    have hj : j < k := by
      have h2 := (List.getElem?_eq_some_iff.1 hu).1
      rw [List.getElem?_map] at hx
      cases hq : l[i]? with
      | none => rw [hq] at hx; simp at hx
      | some q => rw [hq] at hx; simp at hx; subst hx; rwa [hk] at h2
    rw [Nat.zero_add, cell_of_row w g _ cur e (0, 0) hg]
    rw [← ht, List.getElem?_take] at h1
    split at h1
    · simpa using h1
    · cases h1
/-- Rows in a block, none of their cells frozen. -/
def RowsIn (k : Nat) (w : World) (b : Nat) (xs : List (List Value)) : Prop := b < w.heap.size ∧ ∀ (i : Nat) (x : List Value), xs[i]? = some x → ∀ (j : Nat) (v : Value), x[j]? = some v → w.cell? ⟨b, i * k + j, none⟩ = some v ∧ w.frozen? ⟨b, i * k + j, none⟩ = false
theorem RowsIn.agree {k b : Nat} {w w' : World} {xs : List (List Value)} (h : RowsIn k w b xs) (hb : w'.heap[b]? = w.heap[b]?) (hs : w.heap.size ≤ w'.heap.size) : RowsIn k w' b xs :=
  ⟨Nat.lt_of_lt_of_le h.1 hs, fun i x hx j v hv => ⟨(World.cell?_of_block hb).trans (h.2 i x hx j v hv).1, (World.frozen?_of_block hb).trans (h.2 i x hx j v hv).2⟩⟩
theorem RowsIn.put {k b i j : Nat} {w : World} {xs : List (List Value)} {x : List Value} {v0 v : Value} (h : RowsIn k w b xs) (hx : xs[i]? = some x) (hj : x[j]? = some v0) (hk : ∀ y ∈ xs, y.length = k) : RowsIn k (w.setCell ⟨b, i * k + j, none⟩ v) b (xs.set i (x.set j v)) := by
  refine ⟨by simpa using h.1, fun i' x' hx' j' v' hv' => ?_⟩
  have hi : i < xs.length := (List.getElem?_eq_some_iff.1 hx).1
  have hjl := (List.getElem?_eq_some_iff.1 hj).1
  have hxk : x.length = k := hk x (List.mem_of_getElem? hx)
  obtain ⟨h3, h4⟩ := h.2 i x hx j v0 hj
  rw [List.getElem?_set] at hx'
  by_cases e : i = i'
  · subst e
    rw [if_pos rfl, if_pos hi] at hx'
    cases hx'
    rw [List.getElem?_set] at hv'
    by_cases e2 : j = j'
    · subst e2
      rw [if_pos rfl, if_pos hjl] at hv'
      cases hv'
      exact ⟨World.cell?_setCell_same w _ _ h3, by simpa using h4⟩
    · rw [if_neg e2] at hv'
      obtain ⟨h1, h2⟩ := h.2 i x hx j' v' hv'
      exact ⟨(World.cell?_setCell_other w _ _ _ (fun q => e2 (by have := congrArg Addr.off q; simp at this; omega))).trans h1, by simpa using h2⟩
  · rw [if_neg e] at hx'
    obtain ⟨h1, h2⟩ := h.2 i' x' hx' j' v' hv'
    have hx'k : x'.length = k := hk x' (List.mem_of_getElem? hx')
    have hj' := (List.getElem?_eq_some_iff.1 hv').1
    have hne : i * k + j ≠ i' * k + j' := by
      intro q
      rw [hxk] at hjl
      rw [hx'k] at hj'
      have h5 : (i * k + j) / k = i := by rw [Nat.mul_comm, Nat.mul_add_div (by omega), Nat.div_eq_of_lt hjl]; omega
      have h6 : (i' * k + j') / k = i' := by rw [Nat.mul_comm, Nat.mul_add_div (by omega), Nat.div_eq_of_lt hj']; omega
      rw [q, h6] at h5
      exact e h5.symm
    exact ⟨(World.cell?_setCell_other w _ _ _ (fun q => hne (by have := congrArg Addr.off q; simpa using this))).trans h1, by simpa using h2⟩
theorem Sl.at {k lo hi n : Nat} {w : World} {a : Option Addr} {xs : List (List Value)} (h : Sl k lo hi w a n xs) (hn : 0 < n) : ∃ b off, a = some ⟨b, off, none⟩ ∧ lo ≤ b ∧ b < hi ∧ At k w b off xs := h.2.resolve_left (by omega)
theorem set_get' {α : Type} {l : List α} {i j : Nat} {a b : α} (h : (l.set i a)[j]? = some b) : (i = j ∧ b = a) ∨ (i ≠ j ∧ l[j]? = some b) := by
  rw [List.getElem?_set] at h
  by_cases e : i = j
  · rw [if_pos e] at h
    split at h
    · cases h; exact .inl ⟨e, rfl⟩
    · cases h
  · rw [if_neg e] at h; exact .inr ⟨e, h⟩
theorem RowsIn.made {k : Nat} (w : World) (z : List Value) (n : Nat) (t : TypeId) (hz : z.length = k) : RowsIn k (w.alloc (.cells (madeCells z.toArray (n * k)) t)) w.heap.size (List.replicate n z) := by
  have hb : Box (w.alloc (.cells (madeCells z.toArray (n * k)) t)) w.heap.size t (madeCells z.toArray (n * k)).toList := by
    have := Box.new w t (madeCells z.toArray (n * k)).toList
    simpa using this
  refine ⟨by simp, fun i x hx j v hv => ⟨?_, hb.frozen _⟩⟩
  rw [hb.cell]
  rw [List.getElem?_replicate] at hx
  split at hx
  · next hi =>
    cases hx
    have hj : j < k := by have := (List.getElem?_eq_some_iff.1 hv).1; omega
    have h1 : i * k + j < n * k := by
      have : (i + 1) * k ≤ n * k := Nat.mul_le_mul_right k (by omega)
      rw [Nat.add_mul] at this; omega
    have h2 : (i * k + j) % k = j := by rw [Nat.mul_comm, Nat.mul_add_mod]; exact Nat.mod_eq_of_lt hj
    obtain ⟨_, h3⟩ := List.getElem?_eq_some_iff.1 hv
    simp [madeCells, h1, hz, h2]
    simp [List.getElem?_eq_getElem (show j < z.length by omega), h3]
  · cases hx
/-- A list with others in place from o on. -/
def setL (cs : List Value) (o : Nat) : List Value → List Value
  | [] => cs
  | v :: r => setL (cs.set o v) (o + 1) r
theorem setL_length : ∀ (vs cs : List Value) (o : Nat), (setL cs o vs).length = cs.length
  | [], _, _ => rfl
  | v :: r, cs, o => by show (setL (cs.set o v) (o + 1) r).length = _; rw [setL_length r, List.length_set]
theorem box_setCells {g : Nat} {t : TypeId} : ∀ (vs : List Value) {cs : List Value} {o : Nat} {w : World}, Box w g t cs → Box (w.setCells g o vs) g t (setL cs o vs)
  | [], _, _, _, h => h
  | v :: r, cs, o, w, h => by
    rw [World.setCells]
    exact box_setCells r (h.set o v)
theorem two_setCells {g b : Nat} {w : World} : ∀ (vs : List Value) {o : Nat} {w' : World}, Two g b w w' → Two g b w (w'.setCells g o vs)
  | [], _, _, h => h
  | v :: r, o, w', h => by
    rw [World.setCells]
    exact two_setCells r (h.setCell (p := ⟨g, o, none⟩) (.inl rfl) v)
theorem box_there {w : World} {g : Nat} {t : TypeId} {cs : List Value} (h : Box w g t cs) {o n : Nat} (hn : o + n ≤ cs.length) : w.there g o n := fun j hj => by
  rw [h.cell, h.frozen, List.getElem?_eq_getElem (by omega)]
  exact ⟨rfl, rfl⟩
/-- The store of a struct into a part of a block that is known whole: the world behind it, by what it holds. -/
theorem wpList_store_part {P : Program} {ops : Array Oper} {rest : List Oper} {op : Oper} {a : Act} {w : World} {Q : Exit → Act → World → Prop} (hgd : op.guard = none) (ty : TypeId) (x y : Operand) (ho : op.op = .store ty x y)
    (g o : Nat) (old vs new : List Value) (hx : a.eval x = .pointer (some ⟨g, o, none⟩)) (hy : a.eval y = .agg vs.toArray) (t : TypeId) (hg : Box w g t old) (hi : (P.info? ty).map (·.size) = some vs.length)
    (hle : o + vs.length ≤ old.length) (hn : setL old o vs = new) (h1 : ∀ v ∈ vs, v.oneCell' = true)
    (h : ∀ w', Box w' g t new → Two g g w w' → wpList P ops Q rest (a.put op.dst undef) w') : wpList P ops Q (op :: rest) a w := by
  subst hn
  refine wpList_store_mid hgd ty x y ho g o vs.toArray hx hy (by simpa using box_there hg hle) (by simpa using hi) (all_oneCell_toArray h1) ?_
  exact h _ (by simpa using box_setCells vs hg) (by simpa using two_setCells vs (Two.refl g g w))
/-- Rows in a block, one of them another one. -/
theorem RowsIn.put_row {k b i : Nat} {w : World} {xs : List (List Value)} {x vs : List Value} (h : RowsIn k w b xs) (hx : xs[i]? = some x) (hk : ∀ y ∈ xs, y.length = k) (hv : vs.length = k) : RowsIn k (w.setCells b (i * k) vs) b (xs.set i vs) ∧ w.there b (i * k) k := by
  have hi : i < xs.length := (List.getElem?_eq_some_iff.1 hx).1
  have hxk : x.length = k := hk x (List.mem_of_getElem? hx)
  have hth : w.there b (i * k) k := fun j hj => by
    obtain ⟨h1, h2⟩ := h.2 i x hx j (x[j]'(by omega)) (List.getElem?_eq_getElem (by omega))
    rw [h1, h2]; exact ⟨rfl, rfl⟩
  refine ⟨⟨?_, fun i' x' hx' j' v' hv' => ?_⟩, hth⟩
  · have := (two_setCells (g := b) (b := b) vs (o := i * k) (Two.refl b b w)).size
    have := h.1
    omega
  rw [World.frozen?_setCells]
  rw [List.getElem?_set] at hx'
  by_cases e : i = i'
  · subst e
    rw [if_pos rfl, if_pos hi] at hx'
    cases hx'
    have hj := (List.getElem?_eq_some_iff.1 hv').1
    obtain ⟨h1, h2⟩ := h.2 i x hx j' (x[j']'(by omega)) (List.getElem?_eq_getElem (by omega))
    refine ⟨?_, h2⟩
    rw [World.cell?_setCells_in b vs (i * k) w (fun q hq => (hth q (by omega)).1) j' hj, ← hv', List.getElem?_eq_getElem hj]
  · rw [if_neg e] at hx'
    obtain ⟨h1, h2⟩ := h.2 i' x' hx' j' v' hv'
    have hx'k : x'.length = k := hk x' (List.mem_of_getElem? hx')
    have hj' := (List.getElem?_eq_some_iff.1 hv').1
    refine ⟨?_, h2⟩
    rw [World.cell?_setCells_out b vs (i * k) w ⟨b, i' * k + j', none⟩ (fun _ _ => ?_)]
    · exact h1
    · show i' * k + j' < i * k ∨ i * k + vs.length ≤ i' * k + j'
      rw [hx'k] at hj'
      rw [hv]
      rcases Nat.lt_or_ge i' i with q | q
      · left
        have : (i' + 1) * k ≤ i * k := Nat.mul_le_mul_right k q
        rw [Nat.add_mul] at this
        omega
      · right
        have : (i + 1) * k ≤ i' * k := Nat.mul_le_mul_right k (by omega)
        rw [Nat.add_mul] at this
        omega
theorem wpList_store_wrow {P : Program} {ops : Array Oper} {rest : List Oper} {op : Oper} {a : Act} {w : World} {Q : Exit → Act → World → Prop} (hgd : op.guard = none) (ty : TypeId) (x y : Operand) (ho : op.op = .store ty x y)
    (k g i : Nat) (xs : List (List Value)) (x0 vs : List Value) (hx : a.eval x = .pointer (some ⟨g, i * k, none⟩)) (hy : a.eval y = .agg vs.toArray) (hg : RowsIn k w g xs) (hx0 : xs[i]? = some x0) (hk : ∀ y ∈ xs, y.length = k) (hv : vs.length = k) (hi : (P.info? ty).map (·.size) = some vs.length)
    (h1 : ∀ v ∈ vs, v.oneCell' = true)
    (h : ∀ w', RowsIn k w' g (xs.set i vs) → Two g g w w' → wpList P ops Q rest (a.put op.dst undef) w') : wpList P ops Q (op :: rest) a w := by
  obtain ⟨h2, h3⟩ := hg.put_row (vs := vs) hx0 hk hv
  refine wpList_store_mid hgd ty x y ho g (i * k) vs.toArray hx hy (by simpa [hv] using h3) (by simpa using hi) (all_oneCell_toArray h1) ?_
  exact h _ (by simpa using h2) (by simpa using two_setCells vs (Two.refl g g w))
/-- The store of a whole struct into a block of its own: the world behind it, by what it holds. -/
theorem wpList_store_box {P : Program} {ops : Array Oper} {rest : List Oper} {o : Oper} {a : Act} {w : World} {Q : Exit → Act → World → Prop} (hgd : o.guard = none) (ty : TypeId) (x y : Operand) (ho : o.op = .store ty x y)
    (g : Nat) (cells : List Value) (hx : a.eval x = .pointer (some ⟨g, 0, none⟩)) (hy : a.eval y = .agg cells.toArray) (t : TypeId) (old : List Value) (hg : Box w g t old) (hi : (P.info? ty).map (·.size) = some cells.length)
    (hold : old.length = cells.length) (h1 : ∀ v ∈ cells, v.oneCell' = true)
    (h : ∀ w', Box w' g t cells → Two g g w w' → wpList P ops Q rest (a.put o.dst undef) w') : wpList P ops Q (o :: rest) a w := by
  refine wpList_store_row hgd ty x y ho g cells.toArray hx hy t old.toArray hg (by simpa using hi) (by simpa using hold) (Array.all_eq_true_iff_forall_mem.2 (fun v hv => h1 v (by simpa using hv))) (h _ ?_ ?_)
  · exact setRow_heap w g _ _ t (0, 0) hg
  · refine ⟨?_, ?_, ?_, ?_, ?_⟩
    all_goals unfold World.setRow
    · rfl
    · rfl
    · rfl
    · simp
    · intro k hk h1 _
      simp [Array.getElem?_setIfInBounds, Array.getElem?_modify, Ne.symm h1]
theorem ownsRow_agree {w w' : World} {base n size : Nat} {e : TypeId} {v : Value} {xs : List Value} (h : w.ownsRow base e size v n xs) (hb : ∀ q, v.ownBlock = some q → w'.heap[q]? = w.heap[q]?) : w'.ownsRow base e size v n xs := by
  obtain ⟨h1, h2 | ⟨q, cap, cur, rfl, hb', hq, r⟩⟩ := h
  · exact ⟨h1, .inl h2⟩
  · exact ⟨h1, .inr ⟨q, cap, cur, rfl, hb', (hb q rfl).trans hq, r⟩⟩
theorem ownsRow_base {w : World} {base base' n size : Nat} {e : TypeId} {v : Value} {xs : List Value} (h : w.ownsRow base e size v n xs) (hb : base' ≤ base) : w.ownsRow base' e size v n xs := by
  obtain ⟨h1, h2 | ⟨q, cap, cur, h3, h4, r⟩⟩ := h
  · exact ⟨h1, .inl h2⟩
  · exact ⟨h1, .inr ⟨q, cap, cur, h3, by omega, r⟩⟩

end Go.Proofs.YtpfcpeljfgmjgaaDoor

namespace Go.Proofs.YtpfcpeljfgmjgaaDoor
set_option linter.unusedVariables false
set_option linter.unusedSimpArgs false

/-- Element i of a list, nought beyond it. -/
def el (p : List Nat) (i : Nat) : Nat := p.getD i 0

theorem el_map {f : Nat → Nat} {p : List Nat} {i : Nat} (h : i < p.length) : el (p.map f) i = f (el p i) := by
  unfold el; simp [List.getD, h]
theorem el_range {n i : Nat} (h : i < n) : el (List.range n) i = i := by
  unfold el; simp [List.getD, h]
theorem el_rangemap {f : Nat → Nat} {n i : Nat} (h : i < n) : el ((List.range n).map f) i = f i := by
  unfold el; simp [List.getD, h]
theorem el_set_self {p : List Nat} {i v : Nat} (h : i < p.length) : el (p.set i v) i = v := by
  unfold el; simp [List.getD, h]
theorem el_set_other {p : List Nat} {i j v : Nat} (h : i ≠ j) : el (p.set i v) j = el p j := by
  unfold el; simp [List.getD, List.getElem?_set, h]
theorem ext_el {p q : List Nat} (hl : p.length = q.length) (h : ∀ i, i < p.length → el p i = el q i) : p = q := by
  apply List.ext_getElem hl
  intro i h1 h2
  have := h i h1
  unfold el at this
  simpa [List.getD, h1, h2] using this

/-- Is it a partition? -/
def Good (p : List Nat) : Prop := ∀ i, i < p.length → el p i ≤ i ∧ el p (el p i) = el p i

def inB (p : List Nat) (x y : Int) : Bool := decide (0 ≤ x ∧ x < (p.length : Int) ∧ 0 ≤ y ∧ y < (p.length : Int))
def sameB (p : List Nat) (x y : Int) : Bool := decide (0 ≤ x ∧ x < (p.length : Int) ∧ 0 ≤ y ∧ y < (p.length : Int) ∧ el p x.toNat = el p y.toNat)
/-- The classes with a and b for least elements made one. -/
def join (a b v : Nat) : Nat := if v = max a b then min a b else v
def uniL (p : List Nat) (x y : Int) : List Nat := if inB p x y = true then p.map (join (el p x.toNat) (el p y.toNat)) else p
def clsN (p : List Nat) : Nat := (List.range p.length).countP (fun i => el p i == i)
def leB (p q : List Nat) : Bool := decide (p.length = q.length ∧ ∀ i, i < p.length → el q i = el q (el p i))
def ofL (n : Nat) (ps : List (Int × Int)) : List Nat := ps.foldl (fun p q => uniL p q.1 q.2) (List.range n)

theorem uniL_length (p : List Nat) (x y : Int) : (uniL p x y).length = p.length := by
  unfold uniL; split <;> simp
theorem uniL_el {p : List Nat} {x y : Int} (h : inB p x y = true) {z : Nat} (hz : z < p.length) : el (uniL p x y) z = join (el p x.toNat) (el p y.toNat) (el p z) := by
  unfold uniL; rw [if_pos h, el_map hz]
theorem uniL_out {p : List Nat} {x y : Int} (h : ¬ inB p x y = true) : uniL p x y = p := by
  unfold uniL; rw [if_neg h]

theorem ofL_fold_length (ps : List (Int × Int)) (p : List Nat) : (ps.foldl (fun p q => uniL p q.1 q.2) p).length = p.length := by
  induction ps generalizing p with
  | nil => rfl
  | cons q r ih => rw [List.foldl_cons, ih, uniL_length]
theorem ofL_length (n : Nat) (ps : List (Int × Int)) : (ofL n ps).length = n := by
  unfold ofL; rw [ofL_fold_length]; simp
theorem ofL_snoc (n : Nat) (ps : List (Int × Int)) (q : Int × Int) : ofL n (ps ++ [q]) = uniL (ofL n ps) q.1 q.2 := by
  unfold ofL; rw [List.foldl_append]; rfl
theorem ofL_nil (n : Nat) : ofL n [] = List.range n := rfl

theorem join_le (a b v : Nat) : join a b v ≤ v := by unfold join; split <;> omega
theorem join_cases (a b v : Nat) : join a b v = v ∨ join a b v = a ∨ join a b v = b := by unfold join; split <;> omega
theorem join_fix (a b v : Nat) : join a b (join a b v) = join a b v := by
  unfold join; repeat' split
  all_goals omega
theorem join_one (a v : Nat) : join a a v = v := by unfold join; split <;> omega

theorem good_range (n : Nat) : Good (List.range n) := by
  intro i hi
  simp at hi
  rw [el_range hi, el_range hi]
  omega
theorem good_uni {p : List Nat} (h : Good p) (x y : Int) : Good (uniL p x y) := by
  by_cases hb : inB p x y = true
  · intro i hi
    rw [uniL_length] at hi
    have hx : x.toNat < p.length := by simp [inB] at hb; omega
    have hy : y.toNat < p.length := by simp [inB] at hb; omega
    obtain ⟨h1, h2⟩ := h i hi
    obtain ⟨h3, h4⟩ := h _ hx
    obtain ⟨h5, h6⟩ := h _ hy
    have hj := join_le (el p x.toNat) (el p y.toNat) (el p i)
    rw [uniL_el hb hi]
    refine ⟨by omega, ?_⟩
    rw [uniL_el hb (by omega)]
    have : el p (join (el p x.toNat) (el p y.toNat) (el p i)) = join (el p x.toNat) (el p y.toNat) (el p i) := by
      rcases join_cases (el p x.toNat) (el p y.toNat) (el p i) with e | e | e <;> rw [e] <;> assumption
    rw [this, join_fix]
  · rw [uniL_out hb]; exact h
theorem good_fold (ps : List (Int × Int)) (p : List Nat) (h : Good p) : Good (ps.foldl (fun p q => uniL p q.1 q.2) p) := by
  induction ps generalizing p with
  | nil => exact h
  | cons q r ih => exact ih _ (good_uni h _ _)
theorem good_of (n : Nat) (ps : List (Int × Int)) : Good (ofL n ps) := good_fold ps _ (good_range n)

/-- What is of one class stays so. -/
theorem fold_keeps (ps : List (Int × Int)) (p : List Nat) {a b : Nat} (ha : a < p.length) (hb : b < p.length) (h : el p a = el p b) :
    el (ps.foldl (fun p q => uniL p q.1 q.2) p) a = el (ps.foldl (fun p q => uniL p q.1 q.2) p) b := by
  induction ps generalizing p with
  | nil => exact h
  | cons q r ih =>
    refine ih _ (by rw [uniL_length]; exact ha) (by rw [uniL_length]; exact hb) ?_
    by_cases hi : inB p q.1 q.2 = true
    · show el (uniL p q.1 q.2) a = el (uniL p q.1 q.2) b
      rw [uniL_el hi ha, uniL_el hi hb, h]
    · show el (uniL p q.1 q.2) a = el (uniL p q.1 q.2) b
      rw [uniL_out hi]; exact h
theorem uni_same {p : List Nat} {x y : Int} (h : inB p x y = true) : el (uniL p x y) x.toNat = el (uniL p x y) y.toNat := by
  have hx : x.toNat < p.length := by simp [inB] at h; omega
  have hy : y.toNat < p.length := by simp [inB] at h; omega
  rw [uniL_el h hx, uniL_el h hy]
  unfold join; repeat' split
  all_goals omega
/-- Each pair that is there is of one class. -/
theorem of_same (n : Nat) (ps : List (Int × Int)) {q : Int × Int} (hq : q ∈ ps) (h : 0 ≤ q.1 ∧ q.1 < n ∧ 0 ≤ q.2 ∧ q.2 < n) : el (ofL n ps) q.1.toNat = el (ofL n ps) q.2.toNat := by
  obtain ⟨l, r, rfl⟩ := List.append_of_mem hq
  unfold ofL
  rw [List.foldl_append, List.foldl_cons]
  have hl : (l.foldl (fun p q => uniL p q.1 q.2) (List.range n)).length = n := by rw [ofL_fold_length]; simp
  refine fold_keeps _ _ (by rw [uniL_length, hl]; omega) (by rw [uniL_length, hl]; omega) (uni_same ?_)
  simp only [inB, hl, decide_eq_true_eq]; omega
/-- Whatever is one at each pair is one at each element and the least of its class. -/
theorem fold_least {α : Type} (g : Nat → α) (ps : List (Int × Int)) (p : List Nat) (hg : ∀ q ∈ ps, 0 ≤ q.1 ∧ q.1 < p.length ∧ 0 ≤ q.2 ∧ q.2 < p.length → g q.1.toNat = g q.2.toNat)
    (h : ∀ z, z < p.length → g (el p z) = g z) : ∀ z, z < p.length → g (el (ps.foldl (fun p q => uniL p q.1 q.2) p) z) = g z := by
  induction ps generalizing p with
  | nil => exact h
  | cons q r ih =>
    intro z hz
    refine ih (uniL p q.1 q.2) (fun q' hq' => ?_) (fun z hz => ?_) z (by rw [uniL_length]; exact hz)
    · rw [uniL_length]; exact hg q' (List.mem_cons_of_mem _ hq')
    · rw [uniL_length] at hz
      by_cases hi : inB p q.1 q.2 = true
      · rw [uniL_el hi hz]
        have hi' := hi
        simp only [inB, decide_eq_true_eq] at hi'
        have e := hg q (List.mem_cons_self ..) hi'
        have ex := h q.1.toNat (by omega)
        have ey := h q.2.toNat (by omega)
        have ez := h z hz
        unfold join
        split
        · rename_i hm
          have hx : g (max (el p q.1.toNat) (el p q.2.toNat)) = g z := by rw [← hm]; exact ez
          rcases Nat.le_total (el p q.1.toNat) (el p q.2.toNat) with hle | hle
          · rw [Nat.max_eq_right hle] at hx
            rw [Nat.min_eq_left hle, ex, e, ← ey, hx]
          · rw [Nat.max_eq_left hle] at hx
            rw [Nat.min_eq_right hle, ey, ← e, ← ex, hx]
        · exact ez
      · rw [uniL_out hi]; exact h z hz
theorem of_least {α : Type} (g : Nat → α) (n : Nat) (ps : List (Int × Int)) (hg : ∀ q ∈ ps, 0 ≤ q.1 ∧ q.1 < n ∧ 0 ≤ q.2 ∧ q.2 < n → g q.1.toNat = g q.2.toNat) :
    ∀ z, z < n → g (el (ofL n ps) z) = g z := by
  intro z hz
  exact fold_least g ps (List.range n) (by simpa using hg) (fun z hz => by rw [el_range (by simpa using hz)]) z (by simpa using hz)

theorem good_lt {p : List Nat} (h : Good p) {i : Nat} (hi : i < p.length) : el p i < p.length := Nat.lt_of_le_of_lt (h i hi).1 hi

/-- Two partitions each of which is one at the other's pairs are one. -/
theorem good_eq {p q : List Nat} (hp : Good p) (hq : Good q) (hl : p.length = q.length) (h1 : ∀ z, z < p.length → el q (el p z) = el q z) (h2 : ∀ z, z < p.length → el p (el q z) = el p z) : p = q := by
  apply ext_el hl
  intro i hi
  have a1 := h1 i hi
  have a2 := h2 i hi
  have b1 := (hq (el p i) (by rw [← hl]; exact good_lt hp hi)).1
  have b2 := (hp (el q i) (by rw [hl]; exact good_lt hq (by omega))).1
  omega
theorem of_congr {n : Nat} {l m : List (Int × Int)} (h1 : ∀ q ∈ l, q ∈ m ∨ (q.2, q.1) ∈ m) (h2 : ∀ q ∈ m, q ∈ l ∨ (q.2, q.1) ∈ l) : ofL n l = ofL n m := by
  have key : ∀ l m : List (Int × Int), (∀ q ∈ l, q ∈ m ∨ (q.2, q.1) ∈ m) → ∀ z, z < n → el (ofL n m) (el (ofL n l) z) = el (ofL n m) z := by
    intro l m h
    refine of_least _ n l fun q hq hr => ?_
    rcases h q hq with h | h
    · exact of_same n m h hr
    · exact (of_same n m h ⟨hr.2.2.1, hr.2.2.2, hr.1, hr.2.1⟩).symm
  exact good_eq (good_of _ _) (good_of _ _) (by rw [ofL_length, ofL_length]) (by rw [ofL_length]; exact key l m h1) (by rw [ofL_length]; exact key m l h2)

/-! ### Le -/
theorem leB_iff {p q : List Nat} : leB p q = true ↔ p.length = q.length ∧ ∀ i, i < p.length → el q i = el q (el p i) := by simp [leB]
theorem le_refl' {p : List Nat} (h : Good p) : leB p p = true := leB_iff.2 ⟨rfl, fun i hi => (h i hi).2.symm⟩
theorem le_trans' {p q r : List Nat} (hp : Good p) (hq : Good q) (h1 : leB p q = true) (h2 : leB q r = true) : leB p r = true := by
  obtain ⟨l1, h1⟩ := leB_iff.1 h1
  obtain ⟨l2, h2⟩ := leB_iff.1 h2
  refine leB_iff.2 ⟨l1.trans l2, fun i hi => ?_⟩
  have hlt := good_lt hp hi
  rw [h2 i (by omega), h2 (el p i) (by omega), h1 i hi]
theorem le_antisymm' {p q : List Nat} (hp : Good p) (hq : Good q) (h1 : leB p q = true) (h2 : leB q p = true) : p = q := by
  obtain ⟨l1, h1⟩ := leB_iff.1 h1
  obtain ⟨l2, h2⟩ := leB_iff.1 h2
  exact good_eq hp hq l1 (fun z hz => (h1 z hz).symm) (fun z hz => (h2 z (by omega)).symm)
theorem le_range {p : List Nat} {n : Nat} (h : p.length = n) : leB (List.range n) p = true :=
  leB_iff.2 ⟨by simp [h], fun i hi => by rw [el_range (by simpa using hi)]⟩
theorem le_of_of {n : Nat} {l m : List (Int × Int)} (h : ∀ q ∈ l, q ∈ m) : leB (ofL n l) (ofL n m) = true :=
  leB_iff.2 ⟨by rw [ofL_length, ofL_length], fun i hi => by
    rw [ofL_length] at hi
    exact (of_least (el (ofL n m)) n l (fun q hq hr => of_same n m (h q hq) hr) i hi).symm⟩

/-! ### Classes -/
theorem cls_le {p q : List Nat} (hp : Good p) (hq : Good q) (h : leB p q = true) : clsN q ≤ clsN p := by
  obtain ⟨l1, h1⟩ := leB_iff.1 h
  unfold clsN
  rw [← l1]
  apply List.countP_mono_left
  intro i hi hf
  have hi : i < p.length := by simpa using hi
  have hf : el q i = i := by simpa using hf
  have a := h1 i hi
  have b := (hp i hi).1
  have c := (hq (el p i) (by omega)).1
  have : el p i = i := by omega
  simpa using this
theorem count_one (f : Nat → Bool) (M : Nat) (hM : f M = true) : ∀ n, (List.range n).countP (fun i => f i && !(i == M)) + (if M < n then 1 else 0) = (List.range n).countP f
  | 0 => by simp
  | n + 1 => by
    have ih := count_one f M hM n
    rw [List.range_succ, List.countP_append, List.countP_append, ← ih]
    by_cases e : n = M
    · subst e
      simp [hM]
    · have e' : (n == M) = false := by simpa using e
      simp only [List.countP_singleton, e', Bool.not_false, Bool.and_true]
      by_cases hlt : M < n
      · have h2 : M < n + 1 := by omega
        simp only [hlt, h2, if_true]; omega
      · have h2 : ¬ M < n + 1 := by omega
        simp only [hlt, h2, if_false]; omega
/-- Two classes made one: one class less. -/
theorem cls_uni {p : List Nat} (hp : Good p) {x y : Int} (hi : inB p x y = true) (hne : el p x.toNat ≠ el p y.toNat) : clsN (uniL p x y) + 1 = clsN p := by
  have hi' := hi
  simp only [inB, decide_eq_true_eq] at hi'
  have hx := hp x.toNat (by omega)
  have hy := hp y.toNat (by omega)
  obtain ⟨M, hM⟩ : ∃ M, M = max (el p x.toNat) (el p y.toNat) := ⟨_, rfl⟩
  have hMlt : M < p.length := by omega
  have hMM : el p M = M := by
    rcases Nat.le_total (el p x.toNat) (el p y.toNat) with h | h
    · rw [hM, Nat.max_eq_right h]; exact hy.2
    · rw [hM, Nat.max_eq_left h]; exact hx.2
  have := count_one (fun i => el p i == i) M (by simpa using hMM) p.length
  rw [if_pos hMlt] at this
  unfold clsN
  rw [uniL_length, ← this]
  congr 1
  apply List.countP_congr
  intro i hir
  have hil : i < p.length := by simpa using hir
  have hpi := (hp i hil).1
  rw [uniL_el hi hil]
  simp only [beq_iff_eq, Bool.and_eq_true, Bool.not_eq_true', beq_eq_false_iff_ne]
  unfold join
  constructor
  · intro e
    split at e
    · omega
    · exact ⟨e, fun e2 => by rename_i h3; apply h3; rw [e2, hMM, ← hM]⟩
  · rintro ⟨e, e2⟩
    rw [if_neg (by omega)]
    exact e
theorem uni_one {p : List Nat} {x y : Int} (h : el p x.toNat = el p y.toNat) : uniL p x y = p := by
  by_cases hi : inB p x y = true
  · refine ext_el (uniL_length _ _ _) fun i hl => ?_
    rw [uniL_length] at hl
    rw [uniL_el hi hl, h, join_one]
  · exact uniL_out hi
theorem uni_ne {p : List Nat} (hp : Good p) {x y : Int} (hi : inB p x y = true) (hne : el p x.toNat ≠ el p y.toNat) : uniL p x y ≠ p := by
  intro e
  have := cls_uni hp hi hne
  rw [e] at this
  omega

/-! ### a list that tells of each element one of its class that is not above it -/
def Up (u : List Nat) : Prop := ∀ i, i < u.length → el u i ≤ i
def rt (u : List Nat) (x : Nat) : Nat := if h : el u x < x then rt u (el u x) else x
termination_by x
decreasing_by exact h

theorem rt_fix {u : List Nat} {x : Nat} (h : el u x = x) : rt u x = x := by
  rw [rt, dif_neg (by omega)]
theorem rt_step {u : List Nat} (hu : Up u) {x : Nat} (hx : x < u.length) : rt u (el u x) = rt u x := by
  have := hu x hx
  by_cases h : el u x < x
  · conv => rhs; rw [rt, dif_pos h]
  · rw [show el u x = x by omega]
theorem rt_spec {u : List Nat} (hu : Up u) : ∀ x, x < u.length → rt u x ≤ x ∧ el u (rt u x) = rt u x := by
  intro x
  induction x using Nat.strongRecOn with
  | _ x ih =>
    intro hx
    have := hu x hx
    by_cases h : el u x < x
    · have := ih _ h (by omega)
      rw [rt_step hu hx] at this
      exact ⟨by omega, this.2⟩
    · have e : el u x = x := by omega
      rw [rt_fix e]
      exact ⟨Nat.le_refl _, e⟩
theorem rt_lt {u : List Nat} (hu : Up u) {x : Nat} (hx : x < u.length) : rt u x < u.length := Nat.lt_of_le_of_lt (rt_spec hu x hx).1 hx

/-- The way made shorter: nothing turns. -/
theorem up_half {u : List Nat} (hu : Up u) {x : Nat} (hx : x < u.length) : Up (u.set x (el u (el u x))) := by
  intro i hi
  simp at hi
  have a := hu x hx
  have b := hu (el u x) (by omega)
  by_cases e : x = i
  · subst e; rw [el_set_self hx]; omega
  · rw [el_set_other e]; exact hu i hi
theorem rt_half {u : List Nat} (hu : Up u) {x : Nat} (hx : x < u.length) : ∀ z, z < u.length → rt (u.set x (el u (el u x))) z = rt u z := by
  intro z
  induction z using Nat.strongRecOn with
  | _ z ih =>
    intro hz
    have hu' := up_half hu hx
    have a := hu x hx
    have b := hu (el u x) (by omega)
    have c := hu z hz
    have hl : (u.set x (el u (el u x))).length = u.length := by simp
    rw [← rt_step hu' (by omega)]
    by_cases e : x = z
    · subst e
      rw [el_set_self hx]
      by_cases h : el u (el u x) < x
      · rw [ih _ h (by omega), rt_step hu (by omega), rt_step hu hx]
      · have e1 : el u x = x := by omega
        rw [e1, e1]
        rw [rt_fix (el_set_self hx), rt_fix e1]
    · rw [el_set_other e]
      by_cases h : el u z < z
      · rw [ih _ h (by omega), rt_step hu hz]
      · have e1 : el u z = z := by omega
        rw [e1, rt_fix (by rw [el_set_other e]; exact e1), rt_fix e1]
/-- One root hung below another one. -/
theorem up_hang {u : List Nat} (hu : Up u) {a b : Nat} (ha : a < u.length) (hb : b < u.length) : Up (u.set (max a b) (min a b)) := by
  intro i hi
  simp at hi
  by_cases e : max a b = i
  · subst e; rw [el_set_self (by omega)]; omega
  · rw [el_set_other e]; exact hu i hi
theorem rt_hang {u : List Nat} (hu : Up u) {a b : Nat} (ha : a < u.length) (hb : b < u.length) (fa : el u a = a) (fb : el u b = b) (hne : a ≠ b) :
    ∀ z, z < u.length → rt (u.set (max a b) (min a b)) z = join a b (rt u z) := by
  intro z
  induction z using Nat.strongRecOn with
  | _ z ih =>
    intro hz
    have hu' := up_hang hu ha hb
    have c := hu z hz
    have hl : (u.set (max a b) (min a b)).length = u.length := by simp
    have fM : el u (max a b) = max a b := by
      rcases Nat.le_total a b with h | h
      · rw [Nat.max_eq_right h]; exact fb
      · rw [Nat.max_eq_left h]; exact fa
    have fm : el u (min a b) = min a b := by
      rcases Nat.le_total a b with h | h
      · rw [Nat.min_eq_left h]; exact fa
      · rw [Nat.min_eq_right h]; exact fb
    rw [← rt_step hu' (by omega)]
    by_cases e : max a b = z
    · subst e
      rw [el_set_self (by omega), rt_fix fM]
      rw [rt_fix (by rw [el_set_other (by omega)]; exact fm)]
      unfold join; rw [if_pos rfl]
    · rw [el_set_other e]
      by_cases h : el u z < z
      · rw [ih _ h (by omega), rt_step hu hz]
      · have e1 : el u z = z := by omega
        rw [e1, rt_fix (by rw [el_set_other e]; exact e1), rt_fix e1]
        unfold join; rw [if_neg (Ne.symm e)]
/-- One made flat behind the other. -/
theorem flat_round {u v : List Nat} {k : Nat} (hu : Up u) (hl : v.length = u.length) (hk : k < u.length) (h1 : ∀ i, i < k → el v i = rt u i) (h2 : ∀ i, k ≤ i → i < u.length → el v i = el u i) :
    el v (el v k) = rt u k := by
  have c := hu k hk
  rw [h2 k (Nat.le_refl _) hk]
  by_cases h : el u k < k
  · rw [h1 _ h, rt_step hu hk]
  · have e : el u k = k := by omega
    rw [e, h2 k (Nat.le_refl _) hk, e, rt_fix e]

end Go.Proofs.YtpfcpeljfgmjgaaDoor

namespace Go.Proofs.YtpfcpeljfgmjgaaDoor
open Go.RowKit
set_option linter.unusedVariables false



theorem ints_any (a b : Option Addr) (la lb ca cb : Nat) (xs ys : List Int) (w : World) {l1 l2 h1 h2 : Nat} (hx : Row l1 h1 w a la xs) (hy : Row l2 h2 w b lb ys) (hm : la ≤ 9223372036854775807) :
    Calls Tryd.prog 15 #[.slice a la ca, .slice b lb cb] w fun e w' => e = .returned (.bool (decide (xs = ys))) ∧ ∃ n, w' = w.drewN n := by
  obtain ⟨hlx, hx⟩ := hx
  obtain ⟨hly, hy⟩ := hy
  by_cases hne : la = lb
  · obtain rfl := hne
    rcases hx with h0 | ⟨bx, ox, rfl, _, hbx, hcx⟩
    · subst h0
      have : xs = [] := List.length_eq_zero_iff.1 hlx
      have : ys = [] := List.length_eq_zero_iff.1 hly
      subst xs ys
      go_enter Tryd.func15, Tryd.ntmps15
      go_wp2
      go_rounds 1
      go_ret
      exact ⟨rfl, 0, rfl⟩
    · rcases hy with h0 | ⟨by', oy, rfl, _, hby, hcy⟩
      · subst h0
        have : xs = [] := List.length_eq_zero_iff.1 hlx
        have : ys = [] := List.length_eq_zero_iff.1 hly
        subst xs ys
        go_enter Tryd.func15, Tryd.ntmps15
        go_wp2
        go_rounds 1
        go_ret
        exact ⟨rfl, 0, rfl⟩
      · have HX : Hid (∀ i, i < la → w.cell? ⟨bx, ox + i, none⟩ = some (.int .i64 (xs.getD i 0))) := hcx
        have HY : Hid (∀ i, i < la → w.cell? ⟨by', oy + i, none⟩ = some (.int .i64 (ys.getD i 0))) := hcy
        have HL : Hid (xs.length = la ∧ ys.length = la) := ⟨hlx, hly⟩
        clear hcx hcy hlx hly
        go_enter Tryd.func15, Tryd.ntmps15
        go_wp2
        go_loopw [5] (fun i wr => ∃ k n : Nat, k ≤ la ∧ i = .int .i64 k ∧ wr = w.drewN n ∧ Hid (xs.take k = ys.take k)) (fun i _ => la - (intOf i).toNat)
        case atStart => exact ⟨0, 0, Nat.zero_le _, rfl, rfl, by simp [Hid]⟩
        case round =>
          obtain ⟨k, n, hk, rfl, rfl, hp⟩ := hrel
          by_cases hlt : k < la
          · have c1 := HX.out k hlt
            have c2 := HY.out k hlt
            obtain ⟨x, hxk⟩ : ∃ x, xs.getD k 0 = x := ⟨_, rfl⟩
            obtain ⟨y, hyk⟩ : ∃ y, ys.getD k 0 = y := ⟨_, rfl⟩
            rw [hxk] at c1
            rw [hyk] at c2
            have HXk : Hid (xs.getD k 0 = x) := hxk
            have HYk : Hid (ys.getD k 0 = y) := hyk
            clear hxk hyk
            by_cases he : x = y
            · subst he
              go_wp2
              go_quiet (fail)
              go_wp2
              go_roundw
              case rel => exact ⟨k + 1, _, by omega, by go_num, rfl, take_succ_eq (by rw [HL.out.1]; exact hlt) (by rw [HL.out.2]; exact hlt) hp.out (HXk.out.trans HYk.out.symm)⟩
              case measure => simp [intOf]; omega
            · go_wp2
              go_quiet (fail)
              go_wp2
              go_ret
              refine ⟨?_, _, World.drewN_drewN _ _ _⟩
              have : xs ≠ ys := by
                rintro rfl
                exact he (HXk.out.symm.trans HYk.out)
              simp [this]
          · go_wp2
            go_ret
            refine ⟨?_, _, rfl⟩
            obtain rfl : k = la := by omega
            have := hp.out
            rw [List.take_of_length_le (by have := HL.out.1; omega), List.take_of_length_le (by have := HL.out.2; omega)] at this
            simp [this]
  · have hn : xs ≠ ys := by rintro rfl; omega
    have hni : ((la : Int) == (lb : Int)) = false := by simp; omega
    clear hlx hly hx hy
    go_enter Tryd.func15, Tryd.ntmps15
    go_wp2
    go_ret
    exact ⟨by simp [hn], 0, rfl⟩



theorem Tryd.info3 : (Tryd.prog.info? 3).map (fun i => (i.zero, i.size, i.bytes)) = some (some (.int .i64 0), 1, 8) := by kernel_rfl

theorem clone_any (a : Option Addr) (la ca : Nat) (xs : List Int) (w : World) {lo hi : Nat} (hx : Row lo hi w a la xs) (hhi : hi ≤ w.heap.size) (hm : la ≤ 1000000) :
    Calls Tryd.prog 96 #[.slice a la ca] w fun e w' => ∃ a' c', e = .returned (.slice a' la c') ∧ Row w.heap.size w'.heap.size w' a' la xs ∧ Below w.heap.size w w' := by
  have hne := fun (w : World) (a : Option Addr) (n c : Nat) => Lib.run_eql_slice_nil (P := Tryd.prog) w 22 3 a n c 0 0 Tryd.underlying22
  cases a with
  | none =>
    have h0 : la = 0 := hx.nil_len
    subst h0
    go_enter Tryd.func96, Tryd.ntmps96
    go_wp2
    go_ret
    exact ⟨_, _, rfl, ⟨hx.1, .inl rfl⟩, Below.refl _ _⟩
  | some a =>
    obtain ⟨i0, hi0, hz0, hz1, hz2⟩ := info_parts Tryd.info3
    have hb0 : Below w.heap.size w (w.alloc (.cells #[] 3)) := (Below.refl _ _).alloc (Nat.le_refl _) _
    go_enter Tryd.func96, Tryd.ntmps96
    go_wp2_with (at_builtin; refine wpList_append_own _ rfl _ _ 22 rfl w.heap.size 3 i0 (.int .i64 0) 1 8 Tryd.underlying22 hi0 hz0 hz1 hz2 rfl (by decide) _ 0 [] rfl ?c0 a la ca (xs.map (Value.int .i64)) rfl ?c1 ?c2 ?c3 ?c4 ?c5 ?c6 ?_)
    case c0 => exact World.ownsRow_made w #[] 0 (Nat.le_refl _) (by decide) rfl
    case c1 => simp [hx.1]
    case c2 => exact (hx.alloc hhi _).news
    case c3 => exact ints_oneCell _ _
    case c4 => unfold maxLen; omega
    case c5 => omega
    case c6 => simp
    intro v' w1 hown hgr hnn
    have hb1 : Below w.heap.size w w1 := hb0.grown hgr (by simp) (by rintro k hk; cases hk; exact Nat.le_refl _)
    obtain ⟨a', c', rfl, hr⟩ := RowF.of_owns (f := Value.int .i64) (d := (0 : Int)) (xs := xs) (by rw [hx.1]; exact hown)
    clear hown hgr hnn hb0
    go_wp2
    go_ret
    rw [hx.1] at hr ⊢
    exact ⟨_, _, rfl, hr, hb1⟩


/-- A slice of numbers that are not below 0. -/
abbrev RowN := RowF (fun n : Nat => Value.int .i64 (n : Int)) (0 : Nat)

section
variable {lo hi : Nat} {w w' : World} {a : Option Addr} {len : Nat} {p : List Nat}
theorem RowF.ints (h : RowN lo hi w a len p) : Row lo hi w a len (p.map fun n : Nat => (n : Int)) := by
  obtain ⟨h1, h2⟩ := h
  refine ⟨by simpa using h1, h2.imp id fun ⟨b, off, e, hb, hh, hc⟩ => ⟨b, off, e, hb, hh, fun i hi => ?_⟩⟩
  rw [hc i hi]
  simp [List.getD, show i < p.length by omega]
theorem RowF.nats {xs : List Int} (h : Row lo hi w a len xs) (hn : ∀ i, i < len → 0 ≤ xs.getD i 0) : RowN lo hi w a len (xs.map Int.toNat) := by
  obtain ⟨h1, h2⟩ := h
  refine ⟨by simpa using h1, h2.imp id fun ⟨b, off, e, hb, hh, hc⟩ => ⟨b, off, e, hb, hh, fun i hi => ?_⟩⟩
  rw [hc i hi]
  have := hn i hi
  simp [List.getD, show i < xs.length by omega] at this ⊢
  omega
theorem RowF.at_ (h : RowN lo hi w a len p) {i : Nat} (hi' : i < len) : ∃ b off, a = some ⟨b, off, none⟩ ∧ lo ≤ b ∧ b < hi ∧ ∀ i, i < len → w.cell? ⟨b, off + i, none⟩ = some (.int .i64 (el p i : Nat)) :=
  h.2.resolve_left (by omega)
theorem RowF.len_ (h : RowN lo hi w a len p) : p.length = len := h.1
end

theorem ints_eq {p q : List Nat} : decide (p.map (fun n : Nat => (n : Int)) = q.map (fun n : Nat => (n : Int))) = decide (p = q) := by
  have : Function.Injective (fun n : Nat => (n : Int)) := fun a b h => Int.ofNat_inj.1 h
  rw [decide_eq_decide]
  exact List.map_inj_right this

end Go.Proofs.YtpfcpeljfgmjgaaDoor
