/- Lemmas for the walks of this seat: a slice read in memory (RowF; of integers: Row; of bools: RowB; of words: RowU), a block of known cells (Box), append to a slice of the call's own. Words on worlds: all but two blocks is as it was (Two); small words on Below; cuts of slices. No program but its types. Words on memory: lists of k-celled things in a slice (Sl), rows in a block (RowsIn); stores of whole structs; rows that a call owns. No program. All is as it was but for some blocks (Out). No program. The mathematics of lexing: what a list of bytes is as tokens. No program. Contracts of the small predicates of package lex and of the statements' own ones. Contracts of package lex: row, isWord, kind, Name, Con, and of the statements' own word, row, Name, Con. Contracts: whether a text is a word. Contracts: what kind a row is (package lex), whether it is a name or a Con (both). Contracts of package lex: nameToken, signToken, intToken, strings.HasPrefix, strings.Clone. Contracts: strings.HasPrefix, strings.Clone as this program has them; package lex's token, skip. Contracts of package lex: token, skip. Contract of package lex: skip. Contract of package lex: Lex. Two tokens that are one are told so; tokens read in memory; the statements' Same, awake. -/
import Derived.WalkKit
import Derived.WalkLawsBesides
import Derived.WalkSpells
import Derived.Outline
import Derived.Deep.QuietTactic
import Derived.BigQuiet
import Derived.BigRegion
import Derived.RegionTactic
import Derived.ChangeAlike
import Derived.Handy
import Derived.Laws.AppendOwnNone
import Derived.BigFrame
import Derived.Lib.Hide
import Derived.Deep.MidRow
import Derived.Deep.OwnRows
import Derived.Deep.AppendLies
import Derived.Test.YtccilgemfkdmkaaProg
import Derived.Lib.Strings
import Derived.Lib.BufferWrite
import Derived.Lib.UnsafeStr
import Derived.Laws.MakeOwn
import Derived.Laws.Strings3
import Derived.Deep.CutRange
namespace Go.Proofs.Ytccilgemfkdmkaa
open Go.RowKit

/-- A slice's value reads as these elements, each a cell; its cells lie in a block from 'lo' on, ahead of 'hi'. -/
def RowF {α : Type} (f : α → Value) (d : α) (lo hi : Nat) (w : World) (a : Option Addr) (len : Nat) (xs : List α) : Prop :=
  xs.length = len ∧ (len = 0 ∨ ∃ b off, a = some ⟨b, off, none⟩ ∧ lo ≤ b ∧ b < hi ∧ ∀ i, i < len → w.cell? ⟨b, off + i, none⟩ = some (f (xs.getD i d)))

abbrev Row := RowF (Value.int .i64) (0 : Int)
abbrev RowB := RowF Value.bool false
abbrev RowU := RowF (fun n : Nat => Value.int .u64 n) 0

theorem take_succ_eq {xs ys : List Int} {k : Nat} (hx : k < xs.length) (hy : k < ys.length) (h : xs.take k = ys.take k) (he : xs.getD k 0 = ys.getD k 0) : xs.take (k + 1) = ys.take (k + 1) := by
  have e : ∀ {zs : List Int}, k < zs.length → zs.take (k + 1) = zs.take k ++ [zs.getD k 0] := by
    intro zs hk
    rw [List.take_add_one, List.getElem?_eq_getElem hk]; simp [List.getD, hk]
  rw [e hx, e hy, h, he]

theorem RowF.of_owns {α : Type} {f : α → Value} {d : α} {w : World} {base e : Nat} {v : Value} {xs : List α} (h : w.ownsRow base e 1 v xs.length (xs.map f)) : ∃ a c, v = .slice a xs.length c ∧ RowF f d base w.heap.size w a xs.length xs := by
  obtain ⟨_, h | ⟨g, cap, cur, rfl, hb, hg, hn, hcap, hsz, ht⟩⟩ := h
  · obtain ⟨rfl, h⟩ := h
    exact ⟨none, 0, by rw [h], rfl, .inl h⟩
  · refine ⟨_, _, rfl, rfl, .inr ⟨g, 0, rfl, hb, (Array.getElem?_eq_some_iff.1 hg).1, fun i hi => ?_⟩⟩
    rw [Nat.zero_add, cell_of_row w g i cur e (0, 0) hg]
    have : (xs.map f)[i]? = some (f (xs.getD i d)) := by simp [hi]
    rw [← ht, List.getElem?_take] at this
    split at this
    · simpa using this
    · cases this

section
variable {α : Type} {f : α → Value} {d : α} {lo hi lo' hi' : Nat} {w w' : World} {a : Option Addr} {len : Nat} {xs : List α}

theorem RowF.agree (h : RowF f d lo hi w a len xs) (hb : ∀ k, lo ≤ k → k < hi → w'.heap[k]? = w.heap[k]?) : RowF f d lo hi w' a len xs := by
  obtain ⟨h1, h2 | ⟨b, off, rfl, hl, hh, hc⟩⟩ := h
  · exact ⟨h1, .inl h2⟩
  · exact ⟨h1, .inr ⟨b, off, rfl, hl, hh, fun i hi => (World.cell?_of_block (hb b hl hh)).trans (hc i hi)⟩⟩

theorem RowF.below (h : RowF f d lo hi w a len xs) {B : Nat} (hb : Below B w w') (hh : hi ≤ B) : RowF f d lo hi w' a len xs := h.agree fun k _ hk => hb.block k (by omega)

theorem RowF.set (h : RowF f d lo hi w a len xs) {p : Addr} (hp : p.block < lo ∨ hi ≤ p.block) (u : Value) : RowF f d lo hi (w.setCell p u) a len xs := h.agree fun k h1 h2 => Below.heap_setCell w p u k (by omega)

theorem RowF.alloc (h : RowF f d lo hi w a len xs) (hh : hi ≤ w.heap.size) (o : Obj) : RowF f d lo hi (w.alloc o) a len xs := h.agree fun k _ h2 => Below.heap_alloc w o k (by omega)

theorem RowF.drew (h : RowF f d lo hi w a len xs) : RowF f d lo hi w.drew a len xs := h

theorem RowF.grown (h : RowF f d lo hi w a len xs) {row : Option Nat} (hg : w.grownBy w' row) (hh : hi ≤ w.heap.size) (hr : ∀ k, row = some k → k < lo ∨ hi ≤ k) : RowF f d lo hi w' a len xs :=
  h.agree fun k h1 h2 => hg.block k (by omega) (fun e => by have := hr k e.symm; omega)

theorem RowF.mono (h : RowF f d lo hi w a len xs) (hl : lo' ≤ lo) (hh : hi ≤ hi') : RowF f d lo' hi' w a len xs := by
  obtain ⟨h1, h2 | ⟨b, off, rfl, hlb, hbb, hc⟩⟩ := h
  · exact ⟨h1, .inl h2⟩
  · exact ⟨h1, .inr ⟨b, off, rfl, by omega, by omega, hc⟩⟩

theorem RowF.news {a : Addr} (hx : RowF f d lo hi w (some a) len xs) : ∀ j u, (xs.map f)[j]? = some u → w.cell? (a.add j) = some u := by
  intro j u hu
  obtain ⟨hl, h | ⟨b, off, h, _, hbb, hc⟩⟩ := hx
  · have : xs = [] := List.length_eq_zero_iff.1 (by omega)
    subst this; simp at hu
  · cases h
    have hj : j < len := by have := (List.getElem?_eq_some_iff.1 hu).1; simp at this; omega
    rw [Addr.add_lit, hc j hj]
    rw [List.getElem?_map, List.getElem?_eq_getElem (by omega)] at hu
    simp at hu
    simp [List.getD, List.getElem?_eq_getElem (show j < xs.length by omega), hu]

theorem RowF.nil_len (hx : RowF f d lo hi w none len xs) : len = 0 := by
  obtain ⟨_, h | ⟨_, _, h, _⟩⟩ := hx
  · exact h
  · cases h
end

theorem after {W w1 : World} (hb : Below W.heap.size W w1) : (∀ b o, b < W.heap.size → w1.cell? ⟨b, o, none⟩ = W.cell? ⟨b, o, none⟩) ∧ (∀ b o, b < W.heap.size → w1.frozen? ⟨b, o, none⟩ = W.frozen? ⟨b, o, none⟩) :=
  ⟨fun b o h => hb.cell (p := ⟨b, o, none⟩) h, fun b o h => hb.frozen (p := ⟨b, o, none⟩) h⟩

theorem ownsRow_below {w w' : World} {base : Nat} {e : TypeId} {size : Nat} {v : Value} {n : Nat} {xs : List Value} (h : w.ownsRow base e size v n xs) (hb : Below w.heap.size w w') : w'.ownsRow base e size v n xs :=
  h.kept (row := none) ⟨hb.os, hb.tape, hb.output, hb.size, fun k hk _ => hb.block k hk⟩ (by cases v.ownBlock <;> simp)

/-- Block b holds just these cells, none of them frozen. -/
def Box (w : World) (b : Nat) (t : TypeId) (cs : List Value) : Prop := w.heap[b]? = some (.cells cs.toArray t (0, 0))

section
variable {w w' : World} {b : Nat} {t : TypeId} {cs : List Value}
theorem Box.cell (h : Box w b t cs) (i : Nat) : w.cell? ⟨b, i, none⟩ = cs[i]? := by
  unfold Box at h; simp [World.cell?, h]
theorem Box.frozen (h : Box w b t cs) (i : Nat) : w.frozen? ⟨b, i, none⟩ = false := by
  unfold Box at h; simp [World.frozen?, h]
theorem Box.lt (h : Box w b t cs) : b < w.heap.size := (Array.getElem?_eq_some_iff.1 h).1
theorem Box.below (h : Box w b t cs) (hb : Below w.heap.size w w') : Box w' b t cs := (hb.block b h.lt).trans h
theorem Box.new (w : World) (t : TypeId) (cs : List Value) : Box (w.alloc (.cells cs.toArray t)) w.heap.size t cs := by
  unfold Box World.alloc; simp
theorem Box.alloc (h : Box w b t cs) (o : Obj) : Box (w.alloc o) b t cs := (Below.heap_alloc w o b h.lt).trans h
theorem Box.set (h : Box w b t cs) (i : Nat) (u : Value) : Box (w.setCell ⟨b, i, none⟩ u) b t (cs.set i u) := by
  unfold Box at *
  simp [World.setCell, Array.getElem?_modify, h]
theorem Box.setOther (h : Box w b t cs) {a : Addr} (ha : b ≠ a.block) (u : Value) : Box (w.setCell a u) b t cs := (Below.heap_setCell w a u b ha).trans h
theorem Box.drew (h : Box w b t cs) : Box w.drew b t cs := h
theorem Box.grown (h : Box w b t cs) {row : Option Nat} (hg : w.grownBy w' row) (hne : some b ≠ row) : Box w' b t cs := (hg.block b h.lt hne).trans h
theorem Box.one {c0 : Value} (h : Box w b t [c0]) : w.cell? ⟨b, 0, none⟩ = some c0 ∧ w.frozen? ⟨b, 0, none⟩ = false := ⟨h.cell 0, h.frozen 0⟩
theorem Box.two {c0 c1 : Value} (h : Box w b t [c0, c1]) : w.cell? ⟨b, 0, none⟩ = some c0 ∧ w.cell? ⟨b, 1, none⟩ = some c1 ∧ w.frozen? ⟨b, 0, none⟩ = false ∧ w.frozen? ⟨b, 1, none⟩ = false := ⟨h.cell 0, h.cell 1, h.frozen 0, h.frozen 1⟩
theorem Box.three {c0 c1 c2 : Value} (h : Box w b t [c0, c1, c2]) : w.cell? ⟨b, 0, none⟩ = some c0 ∧ w.cell? ⟨b, 1, none⟩ = some c1 ∧ w.cell? ⟨b, 2, none⟩ = some c2 ∧ w.frozen? ⟨b, 0, none⟩ = false ∧ w.frozen? ⟨b, 1, none⟩ = false ∧ w.frozen? ⟨b, 2, none⟩ = false :=
  ⟨h.cell 0, h.cell 1, h.cell 2, h.frozen 0, h.frozen 1, h.frozen 2⟩
end

/-- 'append' to a slice of the call's own, whatever is appended (nil, too), guarded or not. -/
theorem wpList_append_any {P : Program} {w : World} {ops : Array Oper} {rest : List Oper} {o : Oper} {a : Act} {Q : Exit → Act → World → Prop} (hw : Region.wanted o (yielded ops a.tmps) = true) (s x : Operand) (t : TypeId)
    (ho : o.op = .call { callee := .builtin .append, args := #[s, x], argTypes := #[t, t] })
    (base : Nat) (e : TypeId) (i : TypeInfo) (z : Value) (size bytes : Nat) (ht : P.underlying t = some (.slice e)) (hi : P.info? e = some i) (hz : i.zero = some z)
    (hsize : i.size = size) (hby : i.bytes = bytes) (hzs : z.cells.size = size) (hsz : 0 < size)
    (v : Value) (n : Nat) (xs : List Value) (hs : a.eval s = v) (hown : w.ownsRow base e size v n xs)
    (ao : Option Addr) (m c : Nat) (news : List Value) (hx : a.eval x = .slice ao m c) (hnil : ao = none → m = 0 ∧ c = 0) (hl : news.length = m * size)
    (hnews : ∀ ad, ao = some ad → ∀ j u, news[j]? = some u → w.cell? (ad.add j) = some u) (h1 : ∀ u ∈ news, u.oneCell' = true)
    (h63 : n + m ≤ maxLen) (hbytes : (n + m) * bytes ≤ 140737488355328) (hbase : base ≤ w.heap.size)
    (h : ∀ v' w', w'.ownsRow base e size v' (n + m) (xs ++ news) → w.grownBy w' v.ownBlock → wpList P ops Q rest (a.put o.dst v') w') : wpList P ops Q (o :: rest) a w := by
  refine BigFrame.wpList_want hw fun K hK => ?_
  cases ao with
  | some ad => exact wp_append_own (w := w) s x t ho base e i z size bytes ht hi hz hsize hby hzs hsz v n xs hs hown ad m c news hx hl (hnews ad rfl) h1 h63 hbytes hbase (fun v' w' h2 h3 _ => hK _ _ (h v' w' h2 h3))
  | none =>
    obtain ⟨rfl, rfl⟩ := hnil rfl
    obtain rfl : news = [] := List.eq_nil_of_length_eq_zero (by simpa using hl)
    have hrun := run_append_owned_none (P := P) (w := w) base t o.type e i size ht hi v n xs hown
    unfold Oper.wp
    simp [execOp, ho, resolve, invoke, builtin, hs, hx, hrun, Result.andThen]
    exact hK _ _ (h v w (by simpa using hown) (World.grownBy.refl _ _))

end Go.Proofs.Ytccilgemfkdmkaa

namespace Go.Proofs.Ytccilgemfkdmkaa
open Go.RowKit
open Go.ChangeMaps (setBlock)
set_option linter.unusedVariables false
set_option linter.unusedSimpArgs false

theorem below_drewN' {B : Nat} {w w' : World} (h : Below B w w') (n : Nat) : Below B w (w'.drewN n) := ⟨h.os, h.tape, h.output, h.size, h.block⟩
theorem below_alloc {B : Nat} {w w' : World} (h : Below B w w') (hB : B ≤ w.heap.size) (o : Obj) : Below B w (w'.alloc o) := h.alloc (Nat.le_trans hB h.size) o
theorem below_grown {B : Nat} {w w' w'' : World} {row : Option Nat} (h : Below B w w') (hg : w'.grownBy w'' row) (hB : B ≤ w.heap.size) (hr : ∀ q, row = some q → B ≤ q) : Below B w w'' := h.grown hg (Nat.le_trans hB h.size) hr
theorem below_next {B : Nat} {w w' w'' : World} (h : Below B w w') (k : Below w'.heap.size w' w'') (hB : B ≤ w.heap.size) : Below B w w'' := h.trans (k.mono (Nat.le_trans hB h.size))
theorem below_set3' {B b : Nat} {w wz : World} {v0 v1 v2 : Value} (h : Below B w wz) (hb : B ≤ b) : Below B w (((wz.setCell ⟨b, 0, none⟩ v0).setCell ⟨b, 1, none⟩ v1).setCell ⟨b, 2, none⟩ v2) := ((h.setCell (p := ⟨b, 0, none⟩) hb v0).setCell (p := ⟨b, 1, none⟩) hb v1).setCell (p := ⟨b, 2, none⟩) hb v2
theorem RowF.drewN' {α : Type} {f : α → Value} {d : α} {lo hi : Nat} {w : World} {a : Option Addr} {len : Nat} {xs : List α} (h : RowF f d lo hi w a len xs) (n : Nat) : RowF f d lo hi (w.drewN n) a len xs := h
theorem Box.drewN' {w : World} {b : Nat} {t : TypeId} {cs : List Value} (h : Box w b t cs) (n : Nat) : Box (w.drewN n) b t cs := h
theorem size_drewN' (w : World) (n : Nat) : (w.drewN n).heap.size = w.heap.size := rfl

/-- All but two blocks is as it was. -/
structure Two (b1 b2 : Nat) (w w' : World) : Prop where
  os : w'.os = w.os
  tape : w'.tape = w.tape
  output : w'.output = w.output
  size : w.heap.size ≤ w'.heap.size
  block : ∀ k, k < w.heap.size → k ≠ b1 → k ≠ b2 → w'.heap[k]? = w.heap[k]?

theorem heap_setBlock_ne {w : World} {r k : Nat} {o : Obj} (h : k ≠ r) : (setBlock w r o).heap[k]? = w.heap[k]? := by
  unfold setBlock
  simp [Array.getElem?_setIfInBounds, Ne.symm h]
theorem heap_setBlock_eq {w : World} {r : Nat} {o : Obj} (h : r < w.heap.size) : (setBlock w r o).heap[r]? = some o := by
  unfold setBlock
  simp [h]
theorem size_setBlock (w : World) (r : Nat) (o : Obj) : (setBlock w r o).heap.size = w.heap.size := by
  unfold setBlock; simp

section
variable {b1 b2 : Nat} {w w' w'' : World}
theorem Two.refl (b1 b2 : Nat) (w : World) : Two b1 b2 w w := ⟨rfl, rfl, rfl, Nat.le_refl _, fun _ _ _ _ => rfl⟩
theorem Two.trans (h : Two b1 b2 w w') (k : Two b1 b2 w' w'') : Two b1 b2 w w'' :=
  ⟨k.os.trans h.os, k.tape.trans h.tape, k.output.trans h.output, Nat.le_trans h.size k.size, fun i hi h1 h2 => (k.block i (Nat.lt_of_lt_of_le hi h.size) h1 h2).trans (h.block i hi h1 h2)⟩
theorem Two.alloc (h : Two b1 b2 w w') (o : Obj) : Two b1 b2 w (w'.alloc o) :=
  ⟨h.os, h.tape, h.output, Nat.le_trans h.size (by simp), fun i hi h1 h2 => (Below.heap_alloc _ _ _ (Nat.lt_of_lt_of_le hi h.size)).trans (h.block i hi h1 h2)⟩
theorem Two.drew (h : Two b1 b2 w w') : Two b1 b2 w w'.drew := ⟨h.os, h.tape, h.output, h.size, h.block⟩
theorem Two.drewN (h : Two b1 b2 w w') (n : Nat) : Two b1 b2 w (w'.drewN n) := ⟨h.os, h.tape, h.output, h.size, h.block⟩
theorem Two.setCell (h : Two b1 b2 w w') {p : Addr} (hp : p.block = b1 ∨ p.block = b2) (u : Value) : Two b1 b2 w (w'.setCell p u) :=
  ⟨h.os, h.tape, h.output, by simpa using h.size, fun i hi h1 h2 => (Below.heap_setCell _ _ _ _ (by rcases hp with e | e <;> rw [e] <;> assumption)).trans (h.block i hi h1 h2)⟩
theorem Two.setBlock (h : Two b1 b2 w w') {r : Nat} (hr : r = b1 ∨ r = b2) (o : Obj) : Two b1 b2 w (setBlock w' r o) :=
  ⟨h.os, h.tape, h.output, by rw [size_setBlock]; exact h.size, fun i hi h1 h2 => (heap_setBlock_ne (by rcases hr with e | e <;> rw [e] <;> assumption)).trans (h.block i hi h1 h2)⟩
theorem Two.below (h : Two b1 b2 w w') {B : Nat} (hb : B ≤ w.heap.size) (h1 : B ≤ b1) (h2 : B ≤ b2) : Below B w w' :=
  ⟨h.os, h.tape, h.output, h.size, fun k hk => h.block k (by omega) (by omega) (by omega)⟩
theorem Two.box (h : Two b1 b2 w w') {b : Nat} {t : TypeId} {cs : List Value} (hb : Box w b t cs) (h1 : b ≠ b1) (h2 : b ≠ b2) : Box w' b t cs := (h.block b hb.lt h1 h2).trans hb
theorem Two.swap (h : Two b1 b2 w w') : Two b2 b1 w w' := ⟨h.os, h.tape, h.output, h.size, fun k a b c => h.block k a c b⟩
theorem Two.one {g b : Nat} {w w' : World} (h : Two g b w w') (hb : w.heap.size ≤ b) : Two g g w w' := ⟨h.os, h.tape, h.output, h.size, fun k hk h1 _ => h.block k hk h1 (by omega)⟩
theorem Two.setNew (h : Two b1 b2 w w') {p : Addr} (hp : w.heap.size ≤ p.block) (u : Value) : Two b1 b2 w (w'.setCell p u) :=
  ⟨h.os, h.tape, h.output, by simpa using h.size, fun i hi h1 h2 => (Below.heap_setCell _ _ _ _ (by omega)).trans (h.block i hi h1 h2)⟩
theorem Two.belowNew (h : Two b1 b2 w w') (hb : Below w'.heap.size w' w'') : Two b1 b2 w w'' :=
  ⟨hb.os.trans h.os, hb.tape.trans h.tape, hb.output.trans h.output, Nat.le_trans h.size hb.size, fun i hi h1 h2 => (hb.block i (Nat.lt_of_lt_of_le hi h.size)).trans (h.block i hi h1 h2)⟩
theorem Two.set (h : Two b1 b2 w w') (b o : Nat) (hb : b = b1 ∨ b = b2) (v : Value) : Two b1 b2 w (w'.setCell ⟨b, o, none⟩ v) := h.setCell (p := ⟨b, o, none⟩) hb v
theorem Two.wide {b : Nat} (h : Two b b w w') (hb : b = b1 ∨ b = b2) : Two b1 b2 w w' := ⟨h.os, h.tape, h.output, h.size, fun k hk h1 h2 => h.block k hk (by omega) (by omega)⟩
theorem Two.of_below (h : Below w.heap.size w w') : Two b1 b2 w w' := ⟨h.os, h.tape, h.output, h.size, fun k hk _ _ => h.block k hk⟩
theorem Two.below' (h : Two b1 b2 w w') {B : Nat} (hb : Below B w' w'') (hw : w.heap.size ≤ B) : Two b1 b2 w w'' :=
  ⟨hb.os.trans h.os, hb.tape.trans h.tape, hb.output.trans h.output, Nat.le_trans h.size hb.size, fun i hi h1 h2 => (hb.block i (Nat.lt_of_lt_of_le hi hw)).trans (h.block i hi h1 h2)⟩
end

end Go.Proofs.Ytccilgemfkdmkaa

namespace Go.Proofs.Ytccilgemfkdmkaa
open Go.RowKit
set_option linter.unusedVariables false
set_option linter.unusedSimpArgs false

/-- Cells of a list of k-celled things that lie from off on in block b. -/
def At (k : Nat) (w : World) (b off : Nat) (xs : List (List Value)) : Prop := ∀ (i : Nat) (x : List Value), xs[i]? = some x → ∀ (j : Nat) (v : Value), x[j]? = some v → w.cell? ⟨b, off + i * k + j, none⟩ = some v
theorem At.agree {k b off : Nat} {w w' : World} {xs : List (List Value)} (h : At k w b off xs) (hb : w'.heap[b]? = w.heap[b]?) : At k w' b off xs := fun i x hx j v hv => (World.cell?_of_block hb).trans (h i x hx j v hv)
theorem At.tail {k b off : Nat} {w : World} {x : List Value} {xs : List (List Value)} (h : At k w b off (x :: xs)) : At k w b (off + k) xs := fun i y hy j v hv => by
  have := h (i + 1) y (by simpa using hy) j v hv
  rwa [show off + (i + 1) * k + j = off + k + i * k + j by rw [Nat.add_mul]; omega] at this
/-- A slice of k-celled things, read in memory. -/
def Sl (k : Nat) (lo hi : Nat) (w : World) (a : Option Addr) (n : Nat) (xs : List (List Value)) : Prop :=
  xs.length = n ∧ (n = 0 ∨ ∃ b off, a = some ⟨b, off, none⟩ ∧ lo ≤ b ∧ b < hi ∧ At k w b off xs)
theorem Sl.agree {k lo hi n : Nat} {w w' : World} {a : Option Addr} {xs : List (List Value)} (h : Sl k lo hi w a n xs) (hb : ∀ b, lo ≤ b → b < hi → w'.heap[b]? = w.heap[b]?) : Sl k lo hi w' a n xs := by
  obtain ⟨h1, h2 | ⟨b, off, rfl, hl, hh, hc⟩⟩ := h
  · exact ⟨h1, .inl h2⟩
  · exact ⟨h1, .inr ⟨b, off, rfl, hl, hh, hc.agree (hb b hl hh)⟩⟩
theorem Sl.below {k lo hi n B : Nat} {w w' : World} {a : Option Addr} {xs : List (List Value)} (h : Sl k lo hi w a n xs) (hb : Below B w w') (hh : hi ≤ B) : Sl k lo hi w' a n xs := h.agree fun b _ hb' => hb.block b (by omega)
theorem Sl.mono {k lo hi lo' hi' n : Nat} {w : World} {a : Option Addr} {xs : List (List Value)} (h : Sl k lo hi w a n xs) (hl : lo' ≤ lo) (hh : hi ≤ hi') : Sl k lo' hi' w a n xs := by
  obtain ⟨h1, h2 | ⟨b, off, rfl, hlb, hbb, hc⟩⟩ := h
  · exact ⟨h1, .inl h2⟩
  · exact ⟨h1, .inr ⟨b, off, rfl, by omega, by omega, hc⟩⟩
/-- A flat row of k-celled things, thing by thing. -/
theorem flat_at {α : Type} {k : Nat} {f : α → List Value} (hk : ∀ x, (f x).length = k) : ∀ (l : List α) (i : Nat) (x : List Value), (l.map f)[i]? = some x → ∀ (j : Nat) (v : Value), x[j]? = some v → (l.flatMap f)[i * k + j]? = some v
  | q :: r, 0, x, hx, j, v, hv => by
    simp at hx; subst hx
    have hj : j < k := by have := (List.getElem?_eq_some_iff.1 hv).1; rwa [hk] at this
    rw [List.flatMap_cons, List.getElem?_append_left (by rw [hk]; omega)]
    simpa using hv
  | q :: r, i + 1, x, hx, j, v, hv => by
    have ih := flat_at hk r i x (by simpa using hx) j v hv
    rw [List.flatMap_cons, List.getElem?_append_right (by rw [hk, Nat.add_mul]; omega), hk, ← ih]
    congr 1
    rw [Nat.add_mul]; omega
theorem flat_length {α : Type} {k : Nat} {f : α → List Value} (hk : ∀ x, (f x).length = k) : ∀ (l : List α), (l.flatMap f).length = l.length * k
  | [] => by simp
  | q :: r => by rw [List.flatMap_cons, List.length_append, hk, flat_length hk r, List.length_cons, Nat.add_mul]; omega
theorem Sl.of_owns {α : Type} {k base n : Nat} {e : TypeId} {f : α → List Value} (hk : ∀ x, (f x).length = k) {w : World} {v : Value} {l : List α} (h : w.ownsRow base e k v n (l.flatMap f)) (hl : l.length = n) : ∃ a c, v = .slice a n c ∧ n ≤ c ∧ Sl k base w.heap.size w a n (l.map f) := by
  obtain ⟨_, ⟨rfl, h0⟩ | ⟨g, cap, cur, rfl, hb, hg, hcap, _, hsz, ht⟩⟩ := h
  · exact ⟨none, 0, by rw [h0], by omega, by simpa using hl, .inl h0⟩
  · refine ⟨_, _, rfl, hcap, by simpa using hl, .inr ⟨g, 0, rfl, hb, (Array.getElem?_eq_some_iff.1 hg).1, fun i x hx j u hu => ?_⟩⟩
    have h1 := flat_at hk l i x hx j u hu
    have hi : i < n := by have := (List.getElem?_eq_some_iff.1 hx).1; simp at this; omega
    have hj : j < k := by
      have h2 := (List.getElem?_eq_some_iff.1 hu).1
      rw [List.getElem?_map] at hx
      cases hq : l[i]? with
      | none => rw [hq] at hx; simp at hx
      | some q => rw [hq] at hx; simp at hx; subst hx; rwa [hk] at h2
    rw [Nat.zero_add, cell_of_row w g _ cur e (0, 0) hg]
    rw [← ht, List.getElem?_take] at h1
    split at h1
    · simpa using h1
    · cases h1
/-- Rows in a block, none of their cells frozen. -/
def RowsIn (k : Nat) (w : World) (b : Nat) (xs : List (List Value)) : Prop := b < w.heap.size ∧ ∀ (i : Nat) (x : List Value), xs[i]? = some x → ∀ (j : Nat) (v : Value), x[j]? = some v → w.cell? ⟨b, i * k + j, none⟩ = some v ∧ w.frozen? ⟨b, i * k + j, none⟩ = false
theorem RowsIn.agree {k b : Nat} {w w' : World} {xs : List (List Value)} (h : RowsIn k w b xs) (hb : w'.heap[b]? = w.heap[b]?) (hs : w.heap.size ≤ w'.heap.size) : RowsIn k w' b xs :=
  ⟨Nat.lt_of_lt_of_le h.1 hs, fun i x hx j v hv => ⟨(World.cell?_of_block hb).trans (h.2 i x hx j v hv).1, (World.frozen?_of_block hb).trans (h.2 i x hx j v hv).2⟩⟩
theorem RowsIn.put {k b i j : Nat} {w : World} {xs : List (List Value)} {x : List Value} {v0 v : Value} (h : RowsIn k w b xs) (hx : xs[i]? = some x) (hj : x[j]? = some v0) (hk : ∀ y ∈ xs, y.length = k) : RowsIn k (w.setCell ⟨b, i * k + j, none⟩ v) b (xs.set i (x.set j v)) := by
  refine ⟨by simpa using h.1, fun i' x' hx' j' v' hv' => ?_⟩
  have hi : i < xs.length := (List.getElem?_eq_some_iff.1 hx).1
  have hjl := (List.getElem?_eq_some_iff.1 hj).1
  have hxk : x.length = k := hk x (List.mem_of_getElem? hx)
  obtain ⟨h3, h4⟩ := h.2 i x hx j v0 hj
  rw [List.getElem?_set] at hx'
  by_cases e : i = i'
  · subst e
    rw [if_pos rfl, if_pos hi] at hx'
    cases hx'
    rw [List.getElem?_set] at hv'
    by_cases e2 : j = j'
    · subst e2
      rw [if_pos rfl, if_pos hjl] at hv'
      cases hv'
      exact ⟨World.cell?_setCell_same w _ _ h3, by simpa using h4⟩
    · rw [if_neg e2] at hv'
      obtain ⟨h1, h2⟩ := h.2 i x hx j' v' hv'
      exact ⟨(World.cell?_setCell_other w _ _ _ (fun q => e2 (by have := congrArg Addr.off q; simp at this; omega))).trans h1, by simpa using h2⟩
  · rw [if_neg e] at hx'
    obtain ⟨h1, h2⟩ := h.2 i' x' hx' j' v' hv'
    have hx'k : x'.length = k := hk x' (List.mem_of_getElem? hx')
    have hj' := (List.getElem?_eq_some_iff.1 hv').1
    have hne : i * k + j ≠ i' * k + j' := by
      intro q
      rw [hxk] at hjl
      rw [hx'k] at hj'
      have h5 : (i * k + j) / k = i := by rw [Nat.mul_comm, Nat.mul_add_div (by omega), Nat.div_eq_of_lt hjl]; omega
      have h6 : (i' * k + j') / k = i' := by rw [Nat.mul_comm, Nat.mul_add_div (by omega), Nat.div_eq_of_lt hj']; omega
      rw [q, h6] at h5
      exact e h5.symm
    exact ⟨(World.cell?_setCell_other w _ _ _ (fun q => hne (by have := congrArg Addr.off q; simpa using this))).trans h1, by simpa using h2⟩
theorem Sl.at {k lo hi n : Nat} {w : World} {a : Option Addr} {xs : List (List Value)} (h : Sl k lo hi w a n xs) (hn : 0 < n) : ∃ b off, a = some ⟨b, off, none⟩ ∧ lo ≤ b ∧ b < hi ∧ At k w b off xs := h.2.resolve_left (by omega)
theorem set_get' {α : Type} {l : List α} {i j : Nat} {a b : α} (h : (l.set i a)[j]? = some b) : (i = j ∧ b = a) ∨ (i ≠ j ∧ l[j]? = some b) := by
  rw [List.getElem?_set] at h
  by_cases e : i = j
  · rw [if_pos e] at h
    split at h
    · cases h; exact .inl ⟨e, rfl⟩
    · cases h
  · rw [if_neg e] at h; exact .inr ⟨e, h⟩
theorem RowsIn.made {k : Nat} (w : World) (z : List Value) (n : Nat) (t : TypeId) (hz : z.length = k) : RowsIn k (w.alloc (.cells (madeCells z.toArray (n * k)) t)) w.heap.size (List.replicate n z) := by
  have hb : Box (w.alloc (.cells (madeCells z.toArray (n * k)) t)) w.heap.size t (madeCells z.toArray (n * k)).toList := by
    have := Box.new w t (madeCells z.toArray (n * k)).toList
    simpa using this
  refine ⟨by simp, fun i x hx j v hv => ⟨?_, hb.frozen _⟩⟩
  rw [hb.cell]
  rw [List.getElem?_replicate] at hx
  split at hx
  · next hi =>
    cases hx
    have hj : j < k := by have := (List.getElem?_eq_some_iff.1 hv).1; omega
    have h1 : i * k + j < n * k := by
      have : (i + 1) * k ≤ n * k := Nat.mul_le_mul_right k (by omega)
      rw [Nat.add_mul] at this; omega
    have h2 : (i * k + j) % k = j := by rw [Nat.mul_comm, Nat.mul_add_mod]; exact Nat.mod_eq_of_lt hj
    obtain ⟨_, h3⟩ := List.getElem?_eq_some_iff.1 hv
    simp [madeCells, h1, hz, h2]
    simp [List.getElem?_eq_getElem (show j < z.length by omega), h3]
  · cases hx
/-- A list with others in place from o on. -/
def setL (cs : List Value) (o : Nat) : List Value → List Value
  | [] => cs
  | v :: r => setL (cs.set o v) (o + 1) r
theorem setL_length : ∀ (vs cs : List Value) (o : Nat), (setL cs o vs).length = cs.length
  | [], _, _ => rfl
  | v :: r, cs, o => by show (setL (cs.set o v) (o + 1) r).length = _; rw [setL_length r, List.length_set]
theorem box_setCells {g : Nat} {t : TypeId} : ∀ (vs : List Value) {cs : List Value} {o : Nat} {w : World}, Box w g t cs → Box (w.setCells g o vs) g t (setL cs o vs)
  | [], _, _, _, h => h
  | v :: r, cs, o, w, h => by
    rw [World.setCells]
    exact box_setCells r (h.set o v)
theorem two_setCells {g b : Nat} {w : World} : ∀ (vs : List Value) {o : Nat} {w' : World}, Two g b w w' → Two g b w (w'.setCells g o vs)
  | [], _, _, h => h
  | v :: r, o, w', h => by
    rw [World.setCells]
    exact two_setCells r (h.setCell (p := ⟨g, o, none⟩) (.inl rfl) v)
theorem box_there {w : World} {g : Nat} {t : TypeId} {cs : List Value} (h : Box w g t cs) {o n : Nat} (hn : o + n ≤ cs.length) : w.there g o n := fun j hj => by
  rw [h.cell, h.frozen, List.getElem?_eq_getElem (by omega)]
  exact ⟨rfl, rfl⟩
/-- The store of a struct into a part of a block that is known whole: the world behind it, by what it holds. -/
theorem wpList_store_part {P : Program} {ops : Array Oper} {rest : List Oper} {op : Oper} {a : Act} {w : World} {Q : Exit → Act → World → Prop} (hgd : op.guard = none) (ty : TypeId) (x y : Operand) (ho : op.op = .store ty x y)
    (g o : Nat) (old vs new : List Value) (hx : a.eval x = .pointer (some ⟨g, o, none⟩)) (hy : a.eval y = .agg vs.toArray) (t : TypeId) (hg : Box w g t old) (hi : (P.info? ty).map (·.size) = some vs.length)
    (hle : o + vs.length ≤ old.length) (hn : setL old o vs = new) (h1 : ∀ v ∈ vs, v.oneCell' = true)
    (h : ∀ w', Box w' g t new → Two g g w w' → wpList P ops Q rest (a.put op.dst undef) w') : wpList P ops Q (op :: rest) a w := by
  subst hn
  refine wpList_store_mid hgd ty x y ho g o vs.toArray hx hy (by simpa using box_there hg hle) (by simpa using hi) (all_oneCell_toArray h1) ?_
  exact h _ (by simpa using box_setCells vs hg) (by simpa using two_setCells vs (Two.refl g g w))
/-- Rows in a block, one of them another one. -/
theorem RowsIn.put_row {k b i : Nat} {w : World} {xs : List (List Value)} {x vs : List Value} (h : RowsIn k w b xs) (hx : xs[i]? = some x) (hk : ∀ y ∈ xs, y.length = k) (hv : vs.length = k) : RowsIn k (w.setCells b (i * k) vs) b (xs.set i vs) ∧ w.there b (i * k) k := by
  have hi : i < xs.length := (List.getElem?_eq_some_iff.1 hx).1
  have hxk : x.length = k := hk x (List.mem_of_getElem? hx)
  have hth : w.there b (i * k) k := fun j hj => by
    obtain ⟨h1, h2⟩ := h.2 i x hx j (x[j]'(by omega)) (List.getElem?_eq_getElem (by omega))
    rw [h1, h2]; exact ⟨rfl, rfl⟩
  refine ⟨⟨?_, fun i' x' hx' j' v' hv' => ?_⟩, hth⟩
  · have := (two_setCells (g := b) (b := b) vs (o := i * k) (Two.refl b b w)).size
    have := h.1
    omega
  rw [World.frozen?_setCells]
  rw [List.getElem?_set] at hx'
  by_cases e : i = i'
  · subst e
    rw [if_pos rfl, if_pos hi] at hx'
    cases hx'
    have hj := (List.getElem?_eq_some_iff.1 hv').1
    obtain ⟨h1, h2⟩ := h.2 i x hx j' (x[j']'(by omega)) (List.getElem?_eq_getElem (by omega))
    refine ⟨?_, h2⟩
    rw [World.cell?_setCells_in b vs (i * k) w (fun q hq => (hth q (by omega)).1) j' hj, ← hv', List.getElem?_eq_getElem hj]
  · rw [if_neg e] at hx'
    obtain ⟨h1, h2⟩ := h.2 i' x' hx' j' v' hv'
    have hx'k : x'.length = k := hk x' (List.mem_of_getElem? hx')
    have hj' := (List.getElem?_eq_some_iff.1 hv').1
    refine ⟨?_, h2⟩
    rw [World.cell?_setCells_out b vs (i * k) w ⟨b, i' * k + j', none⟩ (fun _ _ => ?_)]
    · exact h1
    · show i' * k + j' < i * k ∨ i * k + vs.length ≤ i' * k + j'
      rw [hx'k] at hj'
      rw [hv]
      rcases Nat.lt_or_ge i' i with q | q
      · left
        have : (i' + 1) * k ≤ i * k := Nat.mul_le_mul_right k q
        rw [Nat.add_mul] at this
        omega
      · right
        have : (i + 1) * k ≤ i' * k := Nat.mul_le_mul_right k (by omega)
        rw [Nat.add_mul] at this
        omega
theorem wpList_store_wrow {P : Program} {ops : Array Oper} {rest : List Oper} {op : Oper} {a : Act} {w : World} {Q : Exit → Act → World → Prop} (hgd : op.guard = none) (ty : TypeId) (x y : Operand) (ho : op.op = .store ty x y)
    (k g i : Nat) (xs : List (List Value)) (x0 vs : List Value) (hx : a.eval x = .pointer (some ⟨g, i * k, none⟩)) (hy : a.eval y = .agg vs.toArray) (hg : RowsIn k w g xs) (hx0 : xs[i]? = some x0) (hk : ∀ y ∈ xs, y.length = k) (hv : vs.length = k) (hi : (P.info? ty).map (·.size) = some vs.length)
    (h1 : ∀ v ∈ vs, v.oneCell' = true)
    (h : ∀ w', RowsIn k w' g (xs.set i vs) → Two g g w w' → wpList P ops Q rest (a.put op.dst undef) w') : wpList P ops Q (op :: rest) a w := by
  obtain ⟨h2, h3⟩ := hg.put_row (vs := vs) hx0 hk hv
  refine wpList_store_mid hgd ty x y ho g (i * k) vs.toArray hx hy (by simpa [hv] using h3) (by simpa using hi) (all_oneCell_toArray h1) ?_
  exact h _ (by simpa using h2) (by simpa using two_setCells vs (Two.refl g g w))
/-- The store of a whole struct into a block of its own: the world behind it, by what it holds. -/
theorem wpList_store_box {P : Program} {ops : Array Oper} {rest : List Oper} {o : Oper} {a : Act} {w : World} {Q : Exit → Act → World → Prop} (hgd : o.guard = none) (ty : TypeId) (x y : Operand) (ho : o.op = .store ty x y)
    (g : Nat) (cells : List Value) (hx : a.eval x = .pointer (some ⟨g, 0, none⟩)) (hy : a.eval y = .agg cells.toArray) (t : TypeId) (old : List Value) (hg : Box w g t old) (hi : (P.info? ty).map (·.size) = some cells.length)
    (hold : old.length = cells.length) (h1 : ∀ v ∈ cells, v.oneCell' = true)
    (h : ∀ w', Box w' g t cells → Two g g w w' → wpList P ops Q rest (a.put o.dst undef) w') : wpList P ops Q (o :: rest) a w := by
  refine wpList_store_row hgd ty x y ho g cells.toArray hx hy t old.toArray hg (by simpa using hi) (by simpa using hold) (Array.all_eq_true_iff_forall_mem.2 (fun v hv => h1 v (by simpa using hv))) (h _ ?_ ?_)
  · exact setRow_heap w g _ _ t (0, 0) hg
  · refine ⟨?_, ?_, ?_, ?_, ?_⟩
    all_goals unfold World.setRow
    · rfl
    · rfl
    · rfl
    · simp
    · intro k hk h1 _
      simp [Array.getElem?_setIfInBounds, Array.getElem?_modify, Ne.symm h1]
theorem ownsRow_agree {w w' : World} {base n size : Nat} {e : TypeId} {v : Value} {xs : List Value} (h : w.ownsRow base e size v n xs) (hb : ∀ q, v.ownBlock = some q → w'.heap[q]? = w.heap[q]?) : w'.ownsRow base e size v n xs := by
  obtain ⟨h1, h2 | ⟨q, cap, cur, rfl, hb', hq, r⟩⟩ := h
  · exact ⟨h1, .inl h2⟩
  · exact ⟨h1, .inr ⟨q, cap, cur, rfl, hb', (hb q rfl).trans hq, r⟩⟩
theorem ownsRow_base {w : World} {base base' n size : Nat} {e : TypeId} {v : Value} {xs : List Value} (h : w.ownsRow base e size v n xs) (hb : base' ≤ base) : w.ownsRow base' e size v n xs := by
  obtain ⟨h1, h2 | ⟨q, cap, cur, h3, h4, r⟩⟩ := h
  · exact ⟨h1, .inl h2⟩
  · exact ⟨h1, .inr ⟨q, cap, cur, h3, by omega, r⟩⟩

end Go.Proofs.Ytccilgemfkdmkaa

namespace Go.Proofs.Ytccilgemfkdmkaa
open Go.RowKit
set_option linter.unusedVariables false
set_option linter.unusedSimpArgs false

/-- All but these blocks is as it was. -/
structure Out (S : Nat → Prop) (w w' : World) : Prop where
  os : w'.os = w.os
  tape : w'.tape = w.tape
  output : w'.output = w.output
  size : w.heap.size ≤ w'.heap.size
  block : ∀ k, k < w.heap.size → ¬ S k → w'.heap[k]? = w.heap[k]?
section
variable {S S' : Nat → Prop} {w w' w'' : World}
theorem Out.refl (S : Nat → Prop) (w : World) : Out S w w := ⟨rfl, rfl, rfl, Nat.le_refl _, fun _ _ _ => rfl⟩
theorem Out.trans (h : Out S w w') (k : Out S w' w'') : Out S w w'' := ⟨k.os.trans h.os, k.tape.trans h.tape, k.output.trans h.output, Nat.le_trans h.size k.size, fun i hi hn => (k.block i (Nat.lt_of_lt_of_le hi h.size) hn).trans (h.block i hi hn)⟩
theorem Out.mono (h : Out S w w') (hs : ∀ k, k < w.heap.size → S k → S' k) : Out S' w w' := ⟨h.os, h.tape, h.output, h.size, fun k hk hn => h.block k hk fun q => hn (hs k hk q)⟩
theorem Out.alloc (h : Out S w w') (o : Obj) : Out S w (w'.alloc o) := ⟨h.os, h.tape, h.output, Nat.le_trans h.size (by simp), fun i hi hn => (Below.heap_alloc _ _ _ (Nat.lt_of_lt_of_le hi h.size)).trans (h.block i hi hn)⟩
theorem Out.drew (h : Out S w w') : Out S w w'.drew := ⟨h.os, h.tape, h.output, h.size, h.block⟩
theorem Out.drewN (h : Out S w w') (n : Nat) : Out S w (w'.drewN n) := ⟨h.os, h.tape, h.output, h.size, h.block⟩
theorem Out.setCell (h : Out S w w') {p : Addr} (hp : S p.block ∨ w.heap.size ≤ p.block) (u : Value) : Out S w (w'.setCell p u) := by
  refine ⟨h.os, h.tape, h.output, by simpa using h.size, fun i hi hn => (Below.heap_setCell _ _ _ _ ?_).trans (h.block i hi hn)⟩
  rintro rfl
  rcases hp with hp | hp
  · exact hn hp
  · omega
theorem Out.grown (h : Out S w w') {row : Option Nat} (hg : w'.grownBy w'' row) (hr : ∀ q, row = some q → S q ∨ w.heap.size ≤ q) : Out S w w'' := by
  obtain ⟨h1, h2, h3, h4, h5⟩ := hg
  refine ⟨h1.trans h.os, h2.trans h.tape, h3.trans h.output, Nat.le_trans h.size h4, fun i hi hn => (h5 i (Nat.lt_of_lt_of_le hi h.size) ?_).trans (h.block i hi hn)⟩
  intro e
  rcases hr i e.symm with hp | hp
  · exact hn hp
  · omega
theorem Out.next (h : Out S w w') (hb : Below w'.heap.size w' w'') : Out S w w'' := ⟨hb.os.trans h.os, hb.tape.trans h.tape, hb.output.trans h.output, Nat.le_trans h.size hb.size, fun i hi hn => (hb.block i (Nat.lt_of_lt_of_le hi h.size)).trans (h.block i hi hn)⟩
theorem Out.of_below (hb : Below w.heap.size w w') : Out S w w' := (Out.refl S w).next hb
theorem Out.of_two {b1 b2 : Nat} (h : Two b1 b2 w w') (h1 : S b1) (h2 : S b2) : Out S w w' := ⟨h.os, h.tape, h.output, h.size, fun k hk hn => h.block k hk (fun e => hn (e ▸ h1)) (fun e => hn (e ▸ h2))⟩
theorem Out.below (h : Out S w w') {B : Nat} (hB : B ≤ w.heap.size) (hs : ∀ k, k < B → ¬ S k) : Below B w w' := ⟨h.os, h.tape, h.output, h.size, fun k hk => h.block k (by omega) (hs k hk)⟩
theorem Out.box (h : Out S w w') {b : Nat} {t : TypeId} {cs : List Value} (hb : Box w b t cs) (hn : ¬ S b) : Box w' b t cs := (h.block b hb.lt hn).trans hb
end
theorem ownsRow_lo {w : World} {base n size : Nat} {e : TypeId} {v : Value} {xs : List Value} (h : w.ownsRow base e size v n xs) : ∀ q, v.ownBlock = some q → base ≤ q ∧ q < w.heap.size := by
  intro q hq
  obtain ⟨_, ⟨rfl, _⟩ | ⟨g, cap, cur, rfl, hb, hg, _⟩⟩ := h
  · cases hq
  · have : g = q := by simpa [Value.ownBlock] using hq
    subst this
    exact ⟨hb, (Array.getElem?_eq_some_iff.1 hg).1⟩

end Go.Proofs.Ytccilgemfkdmkaa

namespace Go.Proofs.Ytccilgemfkdmkaa
set_option linter.unusedVariables false
set_option linter.unusedSimpArgs false

abbrev By := List UInt8
def lowN (c : Nat) : Bool := decide (97 ≤ c) && decide (c ≤ 122)
def uppN (c : Nat) : Bool := decide (65 ≤ c) && decide (c ≤ 90)
def digN (c : Nat) : Bool := decide (48 ≤ c) && decide (c ≤ 57)
def letN (c : Nat) : Bool := lowN c || uppN c
def resN (c : Nat) : Bool := lowN c || uppN c || digN c || decide (c = 95)
def blaN (c : Nat) : Bool := decide (c = 32) || decide (c = 9) || decide (c = 10)
def sigN (c : Nat) : Bool := decide (c = 92) || decide (c = 61) || decide (c = 59) || decide (c = 124) || decide (c = 40) || decide (c = 41) || decide (c = 44) || decide (c = 123) || decide (c = 125)
def noNl (c : Nat) : Bool := decide (c ≠ 10)

/-- The longest row of such bytes at the front. -/
def rowL (p : Nat → Bool) : By → By
  | [] => []
  | c :: r => if p c.toNat then c :: rowL p r else []

def wordsL : List By := [[100, 97, 116, 97], [108, 101, 116], [105, 110], [105, 102], [116, 104, 101, 110], [101, 108, 115, 101], [99, 97, 115, 101], [111, 102], [116, 114, 117, 101], [102, 97, 108, 115, 101]]
def wordB (l : By) : Bool := wordsL.contains l
/-- Is it a row of letters, digits, '_' that is not too long? -/
def rowB (l : By) : Bool := decide (l ≠ []) && decide (l.length ≤ 30) && l.all (fun c => resN c.toNat)
def kindL (l : By) : Nat :=
  if rowB l = false then 0 else if wordB l then 4 else if lowN (l.headD 0).toNat then 1 else if uppN (l.headD 0).toNat then 2 else 0
def numL (l : By) : Nat := l.foldl (fun n c => n * 10 + (c.toNat - 48)) 0

/-- A token: its kind, its text, its number, how many bytes it has. -/
structure Tw where
  k : Nat
  s : By
  n : Nat
  w : Nat
structure Tk where
  k : Nat
  p : Nat
  s : By
  n : Nat
def Tw.at (t : Tw) (i : Nat) : Tk := ⟨t.k, i, t.s, t.n⟩

def tokL : By → Option Tw
  | [] => none
  | b :: r =>
    if letN b.toNat then (if kindL (rowL resN (b :: r)) = 0 then none else some ⟨kindL (rowL resN (b :: r)), rowL resN (b :: r), 0, (rowL resN (b :: r)).length⟩)
    else if digN b.toNat then (if (1 < (rowL digN (b :: r)).length ∧ b.toNat = 48) ∨ 2147483647 < numL (rowL digN (b :: r)) then none else some ⟨3, [], numL (rowL digN (b :: r)), (rowL digN (b :: r)).length⟩)
    else if sigN b.toNat then some ⟨5, [b], 0, 1⟩
    else if b.toNat = 45 ∧ r.head? = some 62 then some ⟨5, [45, 62], 0, 2⟩
    else none

theorem tokL_cons (b : UInt8) (r : By) : tokL (b :: r) =
    if letN b.toNat then (if kindL (rowL resN (b :: r)) = 0 then none else some ⟨kindL (rowL resN (b :: r)), rowL resN (b :: r), 0, (rowL resN (b :: r)).length⟩)
    else if digN b.toNat then (if (1 < (rowL digN (b :: r)).length ∧ b.toNat = 48) ∨ 2147483647 < numL (rowL digN (b :: r)) then none else some ⟨3, [], numL (rowL digN (b :: r)), (rowL digN (b :: r)).length⟩)
    else if sigN b.toNat then some ⟨5, [b], 0, 1⟩
    else if b.toNat = 45 ∧ r.head? = some 62 then some ⟨5, [45, 62], 0, 2⟩
    else none := rfl

/-- Tokens, or where something is that is none. -/
def Lx : Type := Sum Nat (List Tk)
def Lx.bad (i : Nat) : Lx := Sum.inl i
def Lx.ok (l : List Tk) : Lx := Sum.inr l
theorem Lx.cases (x : Lx) : (∃ i, x = Lx.bad i) ∨ ∃ l, x = Lx.ok l := by
  rcases x with i | l
  · exact .inl ⟨i, rfl⟩
  · exact .inr ⟨l, rfl⟩
theorem Lx.ok_inj {a b : List Tk} (h : Lx.ok a = Lx.ok b) : a = b := Sum.inr.inj h
theorem Lx.bad_inj {a b : Nat} (h : Lx.bad a = Lx.bad b) : a = b := Sum.inl.inj h
theorem Lx.bad_ok {i : Nat} {l : List Tk} (h : Lx.bad i = Lx.ok l) : False := by unfold Lx.bad Lx.ok at h; cases h
def Lx.pre (ts : List Tk) : Lx → Lx
  | Sum.inl i => Lx.bad i
  | Sum.inr l => Lx.ok (ts ++ l)
theorem Lx.pre_bad (ts : List Tk) (i : Nat) : (Lx.bad i).pre ts = Lx.bad i := rfl
theorem Lx.pre_ok (ts l : List Tk) : (Lx.ok l).pre ts = Lx.ok (ts ++ l) := rfl
theorem Lx.pre_nil (x : Lx) : x.pre [] = x := by
  rcases Lx.cases x with ⟨i, rfl⟩ | ⟨l, rfl⟩ <;> rfl
theorem Lx.pre_pre (a b : List Tk) (x : Lx) : (x.pre b).pre a = x.pre (a ++ b) := by
  rcases Lx.cases x with ⟨i, rfl⟩ | ⟨l, rfl⟩
  · rfl
  · rw [Lx.pre_ok, Lx.pre_ok, Lx.pre_ok, List.append_assoc]

def lexF : Nat → By → Nat → Lx
  | 0, _, _ => .ok []
  | _ + 1, [], _ => .ok []
  | n + 1, b :: r, i =>
    if blaN b.toNat then lexF n r (i + 1)
    else if b.toNat = 45 ∧ r.head? = some 45 then lexF n (r.drop (rowL noNl r).length) (i + 1 + (rowL noNl r).length)
    else match tokL (b :: r) with
      | none => .bad i
      | some t => (lexF n ((b :: r).drop t.w) (i + t.w)).pre [t.at i]
def lexL (l : By) (i : Nat) : Lx := lexF l.length l i

theorem rowL_le (p : Nat → Bool) : ∀ l, (rowL p l).length ≤ l.length
  | [] => Nat.le_refl _
  | c :: r => by
    unfold rowL; split
    · have := rowL_le p r; simp; omega
    · simp
theorem rowL_pos {p : Nat → Bool} {c : UInt8} {r : By} (h : p c.toNat = true) : 0 < (rowL p (c :: r)).length := by
  unfold rowL; rw [if_pos h]; simp
theorem tokL_pos {l : By} {t : Tw} (h : tokL l = some t) : 0 < t.w ∧ t.w ≤ l.length := by
  cases l with
  | nil => cases h
  | cons b r =>
    rw [tokL_cons] at h
    split at h
    · rename_i hb
      split at h
      · cases h
      · cases h
        refine ⟨rowL_pos ?_, rowL_le _ _⟩
        unfold letN at hb; unfold resN; rw [hb]; rfl
    · split at h
      · rename_i hd
        split at h
        · cases h
        · cases h
          exact ⟨rowL_pos hd, rowL_le _ _⟩
      · split at h
        · cases h; simp
        · split at h
          · rename_i hh
            cases h
            refine ⟨by simp, ?_⟩
            cases r with
            | nil => simp at hh
            | cons x y => simp
          · cases h

theorem lexF_eq : ∀ (n m : Nat) (l : By) (i : Nat), l.length ≤ n → l.length ≤ m → lexF n l i = lexF m l i
  | 0, m, l, i, h, _ => by
    have : l = [] := List.length_eq_zero_iff.1 (by omega)
    subst this
    cases m <;> rfl
  | n + 1, 0, l, i, _, h => by
    have : l = [] := List.length_eq_zero_iff.1 (by omega)
    subst this; rfl
  | n + 1, m + 1, [], i, _, _ => rfl
  | n + 1, m + 1, b :: r, i, h1, h2 => by
    simp only [List.length_cons] at h1 h2
    unfold lexF
    split
    · exact lexF_eq n m r (i + 1) (by omega) (by omega)
    · split
      · exact lexF_eq n m _ _ (by rw [List.length_drop]; omega) (by rw [List.length_drop]; omega)
      · cases ht : tokL (b :: r) with
        | none => rfl
        | some t =>
          have hp := tokL_pos ht
          show (lexF n _ _).pre _ = (lexF m _ _).pre _
          rw [lexF_eq n m _ _ (by rw [List.length_drop, List.length_cons]; omega) (by rw [List.length_drop, List.length_cons]; omega)]

theorem lexL_nil (i : Nat) : lexL [] i = .ok [] := rfl
theorem lexL_blank {b : UInt8} {r : By} (i : Nat) (h : blaN b.toNat = true) : lexL (b :: r) i = lexL r (i + 1) := by
  unfold lexL
  rw [List.length_cons]
  conv => lhs; unfold lexF
  rw [if_pos h]
theorem not_bla {b : UInt8} (h : b.toNat = 45) : ¬ blaN b.toNat = true := by rw [h]; decide
theorem lexL_rem {b : UInt8} {r : By} (i : Nat) (h : b.toNat = 45) (h2 : r.head? = some 45) : lexL (b :: r) i = lexL (r.drop (rowL noNl r).length) (i + 1 + (rowL noNl r).length) := by
  unfold lexL
  rw [List.length_cons]
  conv => lhs; unfold lexF
  rw [if_neg (not_bla h), if_pos ⟨h, h2⟩]
  exact lexF_eq _ _ _ _ (by rw [List.length_drop]; omega) (Nat.le_refl _)
theorem lexL_bad {b : UInt8} {r : By} (i : Nat) (h : blaN b.toNat = false) (h2 : ¬ (b.toNat = 45 ∧ r.head? = some 45)) (ht : tokL (b :: r) = none) : lexL (b :: r) i = .bad i := by
  unfold lexL
  rw [List.length_cons]
  conv => lhs; unfold lexF
  rw [if_neg (by rw [h]; simp), if_neg h2, ht]
theorem lexL_tok {b : UInt8} {r : By} (i : Nat) (h : blaN b.toNat = false) (h2 : ¬ (b.toNat = 45 ∧ r.head? = some 45)) {t : Tw} (ht : tokL (b :: r) = some t) : lexL (b :: r) i = (lexL ((b :: r).drop t.w) (i + t.w)).pre [t.at i] := by
  have hp := tokL_pos ht
  unfold lexL
  rw [List.length_cons]
  conv => lhs; unfold lexF
  rw [if_neg (by rw [h]; simp), if_neg h2, ht]
  show (lexF r.length _ _).pre _ = _
  rw [lexF_eq r.length _ _ _ (by rw [List.length_drop, List.length_cons]; omega) (Nat.le_refl _)]

/-- What is at the front is a token, or nothing that may stand there. -/
def Go1 (l : By) : Prop := ∀ b r, l = b :: r → blaN b.toNat = false ∧ ¬ (b.toNat = 45 ∧ r.head? = some 45)

end Go.Proofs.Ytccilgemfkdmkaa

namespace Go.Proofs.Ytccilgemfkdmkaa
open Go.RowKit
set_option linter.unusedVariables false
set_option linter.unusedSimpArgs false

theorem ret_bool {a b : Bool} (h : a = b) : Ending.returned (.bool a) = .returned (.bool b) := by rw [h]
theorem shr_any (x y : Int) (h : 0 ≤ y) : Op.shift .shr .u64 x .u8 y = pure (.int .u64 (x.fdiv (2 ^ min y.toNat 64))) := by
  have h' : ¬ y < 0 := by omega
  simp [Op.shift, h', IntKind.bits]
def inB (lo hi : Int) (c : Nat) : Bool := bits .and .u64 (bits .or .u64 (lo.fdiv (2 ^ min c 64)) (hi.fdiv (2 ^ min ((c + 192) % 256) 64))) 1 == 1
theorem p_in (c : Nat) (lo hi : Int) (w : World) (hc : c ≤ 255) (v : Bool) (hv : inB lo hi c = v) :
    Calls Try.prog 112 #[.int .u8 (c : Int), .int .u64 lo, .int .u64 hi] w fun e w' => e = .returned (.bool v) ∧ w' = w := by
  obtain ⟨d, hd⟩ : ∃ d : Nat, (c + 192) % 256 = d := ⟨_, rfl⟩
  have e1 : ((c : Int) - 64) % 256 = (d : Int) := by omega
  have T1 := shr_any lo (c : Int) (by omega)
  have T2 := shr_any hi (d : Int) (by omega)
  unfold inB at hv
  rw [hd] at hv
  go_enter Try.func112, Try.ntmps112
  go_wp2
  go_ret
  exact ⟨rfl, rfl⟩

theorem in_isBlank : ∀ c, c < 256 → inB 4294968832 0 c = blaN c := by decide +kernel
theorem p_isBlank (c : Nat) (w : World) (hc : c ≤ 255) :
    Calls Try.prog 86 #[.int .u8 (c : Int)] w fun e w' => e = .returned (.bool (blaN c)) ∧ w' = w := by
  obtain ⟨v, hv⟩ : ∃ v, blaN c = v := ⟨_, rfl⟩
  have hi := in_isBlank c (by omega)
  rw [hv] at hi ⊢
  clear hv
  go_enter Try.func86, Try.ntmps86
  go_wp2_with (go_at_call 112; refine (p_in _ _ _ _ hc v hi).mono ?_; rintro e w' ⟨rfl, rfl⟩)
  go_ret
  exact ⟨rfl, rfl⟩
theorem in_isLetter : ∀ c, c < 256 → inB 0 576460743847706622 c = letN c := by decide +kernel
theorem p_isLetter (c : Nat) (w : World) (hc : c ≤ 255) :
    Calls Try.prog 90 #[.int .u8 (c : Int)] w fun e w' => e = .returned (.bool (letN c)) ∧ w' = w := by
  obtain ⟨v, hv⟩ : ∃ v, letN c = v := ⟨_, rfl⟩
  have hi := in_isLetter c (by omega)
  rw [hv] at hi ⊢
  clear hv
  go_enter Try.func90, Try.ntmps90
  go_wp2_with (go_at_call 112; refine (p_in _ _ _ _ hc v hi).mono ?_; rintro e w' ⟨rfl, rfl⟩)
  go_ret
  exact ⟨rfl, rfl⟩
theorem in_isOfName : ∀ c, c < 256 → inB 287948901175001088 576460745995190270 c = resN c := by decide +kernel
theorem p_isOfName (c : Nat) (w : World) (hc : c ≤ 255) :
    Calls Try.prog 92 #[.int .u8 (c : Int)] w fun e w' => e = .returned (.bool (resN c)) ∧ w' = w := by
  obtain ⟨v, hv⟩ : ∃ v, resN c = v := ⟨_, rfl⟩
  have hi := in_isOfName c (by omega)
  rw [hv] at hi ⊢
  clear hv
  go_enter Try.func92, Try.ntmps92
  go_wp2_with (go_at_call 112; refine (p_in _ _ _ _ hc v hi).mono ?_; rintro e w' ⟨rfl, rfl⟩)
  go_ret
  exact ⟨rfl, rfl⟩
theorem in_isDigit : ∀ c, c < 256 → inB 287948901175001088 0 c = digN c := by decide +kernel
theorem p_isDigit (c : Nat) (w : World) (hc : c ≤ 255) :
    Calls Try.prog 93 #[.int .u8 (c : Int)] w fun e w' => e = .returned (.bool (digN c)) ∧ w' = w := by
  obtain ⟨v, hv⟩ : ∃ v, digN c = v := ⟨_, rfl⟩
  have hi := in_isDigit c (by omega)
  rw [hv] at hi ⊢
  clear hv
  go_enter Try.func93, Try.ntmps93
  go_wp2_with (go_at_call 112; refine (p_in _ _ _ _ hc v hi).mono ?_; rintro e w' ⟨rfl, rfl⟩)
  go_ret
  exact ⟨rfl, rfl⟩
theorem in_isSign : ∀ c, c < 256 → inB 2882324652238045184 4035225266392399872 c = sigN c := by decide +kernel
theorem p_isSign (c : Nat) (w : World) (hc : c ≤ 255) :
    Calls Try.prog 95 #[.int .u8 (c : Int)] w fun e w' => e = .returned (.bool (sigN c)) ∧ w' = w := by
  obtain ⟨v, hv⟩ : ∃ v, sigN c = v := ⟨_, rfl⟩
  have hi := in_isSign c (by omega)
  rw [hv] at hi ⊢
  clear hv
  go_enter Try.func95, Try.ntmps95
  go_wp2_with (go_at_call 112; refine (p_in _ _ _ _ hc v hi).mono ?_; rintro e w' ⟨rfl, rfl⟩)
  go_ret
  exact ⟨rfl, rfl⟩
theorem in_isLower : ∀ c, c < 256 → inB 0 576460743713488896 c = lowN c := by decide +kernel
theorem p_isLower (c : Nat) (w : World) (hc : c ≤ 255) :
    Calls Try.prog 125 #[.int .u8 (c : Int)] w fun e w' => e = .returned (.bool (lowN c)) ∧ w' = w := by
  obtain ⟨v, hv⟩ : ∃ v, lowN c = v := ⟨_, rfl⟩
  have hi := in_isLower c (by omega)
  rw [hv] at hi ⊢
  clear hv
  go_enter Try.func125, Try.ntmps125
  go_wp2_with (go_at_call 112; refine (p_in _ _ _ _ hc v hi).mono ?_; rintro e w' ⟨rfl, rfl⟩)
  go_ret
  exact ⟨rfl, rfl⟩
theorem in_isUpper : ∀ c, c < 256 → inB 0 134217726 c = uppN c := by decide +kernel
theorem p_isUpper (c : Nat) (w : World) (hc : c ≤ 255) :
    Calls Try.prog 126 #[.int .u8 (c : Int)] w fun e w' => e = .returned (.bool (uppN c)) ∧ w' = w := by
  obtain ⟨v, hv⟩ : ∃ v, uppN c = v := ⟨_, rfl⟩
  have hi := in_isUpper c (by omega)
  rw [hv] at hi ⊢
  clear hv
  go_enter Try.func126, Try.ntmps126
  go_wp2_with (go_at_call 112; refine (p_in _ _ _ _ hc v hi).mono ?_; rintro e w' ⟨rfl, rfl⟩)
  go_ret
  exact ⟨rfl, rfl⟩
theorem p_isInLine (c : Nat) (w : World) (hc : c ≤ 255) :
    Calls Try.prog 89 #[.int .u8 (c : Int)] w fun e w' => e = .returned (.bool (noNl c)) ∧ w' = w := by
  go_enter Try.func89, Try.ntmps89
  go_wp2
  go_ret
  refine ⟨ret_bool ?_, rfl⟩
  rw [Bool.eq_iff_iff]; simp [noNl]; omega
theorem r_lower (c : Nat) (w : World) (hc : c ≤ 255) :
    Calls Try.prog 65 #[.int .u8 (c : Int)] w fun e w' => e = .returned (.bool (lowN c)) ∧ w' = w := by
  go_enter Try.func65, Try.ntmps65
  go_wp2
  all_goals
    go_ret
    refine ⟨ret_bool ?_, rfl⟩
    rw [Bool.eq_iff_iff]; simp [lowN]; omega
theorem r_upper (c : Nat) (w : World) (hc : c ≤ 255) :
    Calls Try.prog 66 #[.int .u8 (c : Int)] w fun e w' => e = .returned (.bool (uppN c)) ∧ w' = w := by
  go_enter Try.func66, Try.ntmps66
  go_wp2
  all_goals
    go_ret
    refine ⟨ret_bool ?_, rfl⟩
    rw [Bool.eq_iff_iff]; simp [uppN]; omega
theorem r_digit (c : Nat) (w : World) (hc : c ≤ 255) :
    Calls Try.prog 71 #[.int .u8 (c : Int)] w fun e w' => e = .returned (.bool (digN c)) ∧ w' = w := by
  go_enter Try.func71, Try.ntmps71
  go_wp2
  all_goals
    go_ret
    refine ⟨ret_bool ?_, rfl⟩
    rw [Bool.eq_iff_iff]; simp [digN]; omega
theorem r_rest (c : Nat) (w : World) (hc : c ≤ 255) :
    Calls Try.prog 67 #[.int .u8 (c : Int)] w fun e w' => e = .returned (.bool (resN c)) ∧ w' = w := by
  go_enter Try.func67, Try.ntmps67
  have e1 : (((c : Nat) : Int) == 95) = decide (c = 95) := by rw [Bool.eq_iff_iff]; simp; omega
  cases h1 : lowN c <;> cases h2 : uppN c <;> cases h3 : digN c
  all_goals
    go_wp2_with (first
      | (go_at_call 65; refine (r_lower _ _ hc).mono ?_; rw [h1]; rintro e w' ⟨rfl, rfl⟩)
      | (go_at_call 66; refine (r_upper _ _ hc).mono ?_; rw [h2]; rintro e w' ⟨rfl, rfl⟩)
      | (go_at_call 71; refine (r_digit _ _ hc).mono ?_; rw [h3]; rintro e w' ⟨rfl, rfl⟩))
    go_ret
    refine ⟨ret_bool ?_, rfl⟩
    simp [resN, h1, h2, h3]

end Go.Proofs.Ytccilgemfkdmkaa

namespace Go.Proofs.Ytccilgemfkdmkaa
open Go.RowKit
set_option linter.unusedVariables false
set_option linter.unusedSimpArgs false

theorem byte_le (c : UInt8) : c.toNat ≤ 255 := by have := c.toNat_lt; omega
theorem drop_at (s : ByteArray) (k : Nat) (h : k < s.size) : s.data.toList.drop k = s[k] :: s.data.toList.drop (k + 1) := by
  rw [List.drop_eq_getElem_cons (by simpa using h)]; rfl
theorem rowL_step {p : Nat → Bool} (s : ByteArray) (k : Nat) (h : k < s.size) (hp : p s[k].toNat = true) : (rowL p (s.data.toList.drop k)).length = (rowL p (s.data.toList.drop (k + 1))).length + 1 := by
  rw [drop_at s k h]; conv => lhs; unfold rowL
  rw [if_pos hp]; rfl
theorem rowL_stop {p : Nat → Bool} (s : ByteArray) (k : Nat) (h : k < s.size) (hp : p s[k].toNat = false) : (rowL p (s.data.toList.drop k)).length = 0 := by
  rw [drop_at s k h]; unfold rowL
  rw [if_neg (by rw [hp]; simp)]; rfl
theorem ret_i64 {a b : Int} (h : a = b) : Ending.returned (.int .i64 a) = .returned (.int .i64 b) := by rw [h]

set_option maxHeartbeats 1000000 in
theorem row_isInLine (s : ByteArray) (w : World) (hs : s.size ≤ maxLen) :
    Calls Try.prog 88 #[.string s, .func (.func 89) #[] #[]] w fun e w' => e = .returned (.int .i64 ((rowL noNl s.data.toList).length : Nat)) ∧ w' = w := by
  unfold maxLen at hs
  go_enter Try.func88, Try.ntmps88
  go_wp2
  go_loop [8] (fun i => ∃ k : Nat, k ≤ s.size ∧ i = .int .i64 k ∧ (rowL noNl s.data.toList).length = k + (rowL noNl (s.data.toList.drop k)).length) (fun i => s.size - (intOf i).toNat)
  case atStart => exact ⟨0, Nat.zero_le _, rfl, by simp⟩
  case round =>
    obtain ⟨k, hk, rfl, hr⟩ := hrel
    have HR := Lib.hid hr
    clear hr
    by_cases hlt : k < s.size
    · have hb : s[k].toNat ≤ 255 := byte_le _
      cases hp : noNl s[k].toNat
      · go_wp2_with (go_at_call 89; refine (p_isInLine _ _ hb).mono ?_; rw [hp]; rintro e w' ⟨rfl, rfl⟩)
        go_ret
        exact ⟨ret_i64 (by rw [HR.out, rowL_stop s k hlt hp]; simp), rfl⟩
      · go_wp2_with (go_at_call 89; refine (p_isInLine _ _ hb).mono ?_; rw [hp]; rintro e w' ⟨rfl, rfl⟩)
        go_round
        case rel => exact ⟨k + 1, by omega, by go_num, by rw [HR.out, rowL_step s k hlt hp]; omega⟩
        case measure => simp [intOf]; omega
    · go_wp2
      go_ret
      exact ⟨ret_i64 (by rw [HR.out, List.drop_of_length_le (by simp; omega)]; simp [rowL]; omega), rfl⟩

set_option maxHeartbeats 1000000 in
theorem row_isOfName (s : ByteArray) (w : World) (hs : s.size ≤ maxLen) :
    Calls Try.prog 88 #[.string s, .func (.func 92) #[] #[]] w fun e w' => e = .returned (.int .i64 ((rowL resN s.data.toList).length : Nat)) ∧ w' = w := by
  unfold maxLen at hs
  go_enter Try.func88, Try.ntmps88
  go_wp2
  go_loop [8] (fun i => ∃ k : Nat, k ≤ s.size ∧ i = .int .i64 k ∧ (rowL resN s.data.toList).length = k + (rowL resN (s.data.toList.drop k)).length) (fun i => s.size - (intOf i).toNat)
  case atStart => exact ⟨0, Nat.zero_le _, rfl, by simp⟩
  case round =>
    obtain ⟨k, hk, rfl, hr⟩ := hrel
    have HR := Lib.hid hr
    clear hr
    by_cases hlt : k < s.size
    · have hb : s[k].toNat ≤ 255 := byte_le _
      cases hp : resN s[k].toNat
      · go_wp2_with (go_at_call 92; refine (p_isOfName _ _ hb).mono ?_; rw [hp]; rintro e w' ⟨rfl, rfl⟩)
        go_ret
        exact ⟨ret_i64 (by rw [HR.out, rowL_stop s k hlt hp]; simp), rfl⟩
      · go_wp2_with (go_at_call 92; refine (p_isOfName _ _ hb).mono ?_; rw [hp]; rintro e w' ⟨rfl, rfl⟩)
        go_round
        case rel => exact ⟨k + 1, by omega, by go_num, by rw [HR.out, rowL_step s k hlt hp]; omega⟩
        case measure => simp [intOf]; omega
    · go_wp2
      go_ret
      exact ⟨ret_i64 (by rw [HR.out, List.drop_of_length_le (by simp; omega)]; simp [rowL]; omega), rfl⟩

set_option maxHeartbeats 1000000 in
theorem row_isDigit (s : ByteArray) (w : World) (hs : s.size ≤ maxLen) :
    Calls Try.prog 88 #[.string s, .func (.func 93) #[] #[]] w fun e w' => e = .returned (.int .i64 ((rowL digN s.data.toList).length : Nat)) ∧ w' = w := by
  unfold maxLen at hs
  go_enter Try.func88, Try.ntmps88
  go_wp2
  go_loop [8] (fun i => ∃ k : Nat, k ≤ s.size ∧ i = .int .i64 k ∧ (rowL digN s.data.toList).length = k + (rowL digN (s.data.toList.drop k)).length) (fun i => s.size - (intOf i).toNat)
  case atStart => exact ⟨0, Nat.zero_le _, rfl, by simp⟩
  case round =>
    obtain ⟨k, hk, rfl, hr⟩ := hrel
    have HR := Lib.hid hr
    clear hr
    by_cases hlt : k < s.size
    · have hb : s[k].toNat ≤ 255 := byte_le _
      cases hp : digN s[k].toNat
      · go_wp2_with (go_at_call 93; refine (p_isDigit _ _ hb).mono ?_; rw [hp]; rintro e w' ⟨rfl, rfl⟩)
        go_ret
        exact ⟨ret_i64 (by rw [HR.out, rowL_stop s k hlt hp]; simp), rfl⟩
      · go_wp2_with (go_at_call 93; refine (p_isDigit _ _ hb).mono ?_; rw [hp]; rintro e w' ⟨rfl, rfl⟩)
        go_round
        case rel => exact ⟨k + 1, by omega, by go_num, by rw [HR.out, rowL_step s k hlt hp]; omega⟩
        case measure => simp [intOf]; omega
    · go_wp2
      go_ret
      exact ⟨ret_i64 (by rw [HR.out, List.drop_of_length_le (by simp; omega)]; simp [rowL]; omega), rfl⟩

end Go.Proofs.Ytccilgemfkdmkaa

namespace Go.Proofs.Ytccilgemfkdmkaa
open Go.RowKit
set_option linter.unusedVariables false
set_option linter.unusedSimpArgs false

theorem wordB_or (l : By) : wordB l = ((l == [100, 97, 116, 97]) || ((l == [108, 101, 116]) || ((l == [105, 110]) || ((l == [105, 102]) || ((l == [116, 104, 101, 110]) || ((l == [101, 108, 115, 101]) || ((l == [99, 97, 115, 101]) || ((l == [111, 102]) || ((l == [116, 114, 117, 101]) || (l == [102, 97, 108, 115, 101])))))))))) := by
  unfold wordB wordsL
  rw [Bool.eq_iff_iff]
  simp [List.contains_iff_mem]

set_option maxHeartbeats 2000000 in
theorem w_isWord (s : ByteArray) (w : World) :
    Calls Try.prog 124 #[.string s] w fun e w' => e = .returned (.bool (wordB s.data.toList)) ∧ w' = w := by
  rw [wordB_or, ← Lib.toList_data]
  go_enter Try.func124, Try.ntmps124
  go_wp2
  all_goals
    go_ret
    refine ⟨ret_bool ?_, rfl⟩
    first
      | (simp only [*, Bool.true_or, Bool.or_true, Bool.false_or]; done)
      | simp_all
set_option maxHeartbeats 2000000 in
theorem w_word (s : ByteArray) (w : World) :
    Calls Try.prog 68 #[.string s] w fun e w' => e = .returned (.bool (wordB s.data.toList)) ∧ w' = w := by
  rw [wordB_or, ← Lib.toList_data]
  go_enter Try.func68, Try.ntmps68
  go_wp2
  all_goals
    go_ret
    refine ⟨ret_bool ?_, rfl⟩
    first
      | (simp only [*, Bool.true_or, Bool.or_true, Bool.false_or]; done)
      | simp_all
end Go.Proofs.Ytccilgemfkdmkaa

namespace Go.Proofs.Ytccilgemfkdmkaa
open Go.RowKit
set_option linter.unusedVariables false
set_option linter.unusedSimpArgs false

theorem rowL_all (p : Nat → Bool) : ∀ l : By, (rowL p l).length = l.length ↔ l.all (fun c => p c.toNat) = true
  | [] => by simp [rowL]
  | c :: r => by
    have ih := rowL_all p r
    unfold rowL
    by_cases h : p c.toNat = true
    · rw [if_pos h]; simp [h, ih]
    · rw [if_neg h]; simp [h]
theorem rowB_iff (l : By) : rowB l = true ↔ l.length ≠ 0 ∧ l.length ≤ 30 ∧ (rowL resN l).length = l.length := by
  unfold rowB
  rw [rowL_all]
  simp [List.length_eq_zero_iff, and_assoc]
theorem len_data (s : ByteArray) : s.data.toList.length = s.size := by simp
theorem kindL_no {l : By} (h : ¬ rowB l = true) : kindL l = 0 := by unfold kindL; rw [if_pos (by simpa using h)]
theorem head_data (s : ByteArray) (h : 0 < s.size) : s.data.toList.headD 0 = s[0] := by
  have := drop_at s 0 h
  rw [List.drop_zero] at this
  rw [this]; rfl
theorem kindL_yes {s : ByteArray} (h : rowB s.data.toList = true) (h0 : 0 < s.size) : kindL s.data.toList = if wordB s.data.toList then 4 else if lowN s[0].toNat then 1 else if uppN s[0].toNat then 2 else 0 := by
  unfold kindL; rw [if_neg (by rw [h]; simp), head_data s h0]
theorem toList_ne {s : ByteArray} (h : 0 < s.size) : (s.toList == []) = false := by
  rw [Lib.toList_data]
  cases e : (s.data.toList == [])
  · rfl
  · exfalso
    simp at e
    rw [ByteArray.size, e] at h
    simp at h

set_option maxHeartbeats 2000000 in
theorem k_kind (s : ByteArray) (w : World) (hs : s.size ≤ maxLen) :
    Calls Try.prog 114 #[.string s] w fun e w' => e = .returned (.int .i64 (kindL s.data.toList : Nat)) ∧ w' = w := by
  have HM : Hid (s.size ≤ maxLen) := Lib.hid hs
  clear hs
  by_cases h0 : s.size = 0
  · have e0 : s = ⟨#[]⟩ := by apply ByteArray.ext; exact Array.eq_empty_of_size_eq_zero h0
    subst e0
    go_enter Try.func114, Try.ntmps114
    go_wp2
    go_ret
    exact ⟨rfl, rfl⟩
  have hpos : 0 < s.size := by omega
  have e0 := toList_ne hpos
  by_cases h1 : 30 < s.size
  · have hk : kindL s.data.toList = 0 := kindL_no (by rw [rowB_iff, len_data]; omega)
    have HK := Lib.hid hk
    clear hk
    go_enter Try.func114, Try.ntmps114
    go_wp2
    go_ret
    exact ⟨ret_i64 (by rw [HK.out]; rfl), rfl⟩
  obtain ⟨m, hm⟩ : ∃ m, (rowL resN s.data.toList).length = m := ⟨_, rfl⟩
  have hms : m ≤ s.size := by rw [← hm, ← len_data]; exact rowL_le _ _
  by_cases h2 : m < s.size
  · have hk : kindL s.data.toList = 0 := kindL_no (by rw [rowB_iff, len_data]; omega)
    have HK := Lib.hid hk
    have HC := Lib.hid hm
    clear hk hm
    go_enter Try.func114, Try.ntmps114
    go_wp2_with (go_at_call 88; refine (row_isOfName _ _ HM.out).mono ?_; rw [HC.out]; rintro e w' ⟨rfl, rfl⟩)
    go_ret
    exact ⟨ret_i64 (by rw [HK.out]; rfl), rfl⟩
  · have hk := kindL_yes (s := s) (by rw [rowB_iff, len_data]; omega) hpos
    have HK := Lib.hid hk
    have HC := Lib.hid hm
    clear hk hm
    have hb : s[0].toNat ≤ 255 := byte_le _
    obtain ⟨b0, hb0⟩ : ∃ b, wordB s.data.toList = b := ⟨_, rfl⟩
    obtain ⟨b1, hb1⟩ : ∃ b, lowN s[0].toNat = b := ⟨_, rfl⟩
    obtain ⟨b2, hb2⟩ : ∃ b, uppN s[0].toNat = b := ⟨_, rfl⟩
    have H0 := Lib.hid hb0
    have H1 := Lib.hid hb1
    have H2 := Lib.hid hb2
    rw [hb0, hb1, hb2] at HK
    clear hb0 hb1 hb2
    cases b0 <;> cases b1 <;> cases b2
    all_goals
      go_enter Try.func114, Try.ntmps114
      go_wp2_with (first
        | (go_at_call 88; refine (row_isOfName _ _ HM.out).mono ?_; rw [HC.out]; rintro e w' ⟨rfl, rfl⟩)
        | (go_at_call 124; refine (w_isWord _ _).mono ?_; rw [H0.out]; rintro e w' ⟨rfl, rfl⟩)
        | (go_at_call 125; refine (p_isLower _ _ hb).mono ?_; rw [H1.out]; rintro e w' ⟨rfl, rfl⟩)
        | (go_at_call 126; refine (p_isUpper _ _ hb).mono ?_; rw [H2.out]; rintro e w' ⟨rfl, rfl⟩))
      go_ret
      exact ⟨ret_i64 (by rw [HK.out]; rfl), rfl⟩

theorem word_low {l : By} (h : wordB l = true) : lowN (l.headD 0).toNat = true := by
  rw [wordB_or] at h
  simp only [Bool.or_eq_true, beq_iff_eq] at h
  rcases h with h | h | h | h | h | h | h | h | h | h <;> subst h <;> decide
theorem low_upp {n : Nat} (h : lowN n = true) : uppN n = false := by
  simp [lowN] at h; simp [uppN]; omega
/-- A name; a Con. -/
def nameL (l : By) : Bool := kindL l == 1
def conL (l : By) : Bool := kindL l == 2
theorem nameL_eq (l : By) : nameL l = (rowB l && (lowN (l.headD 0).toNat && !wordB l)) := by
  unfold nameL kindL
  cases rowB l <;> cases wordB l <;> cases lowN (l.headD 0).toNat <;> cases uppN (l.headD 0).toNat <;> rfl
theorem conL_eq (l : By) : conL l = (rowB l && uppN (l.headD 0).toNat) := by
  unfold conL kindL
  cases hr : rowB l
  · rfl
  cases hw : wordB l
  · cases hl : lowN (l.headD 0).toNat
    · cases hu : uppN (l.headD 0).toNat <;> rfl
    · rw [low_upp hl]; rfl
  · rw [low_upp (word_low hw)]; rfl

set_option maxHeartbeats 1000000 in
theorem r_row (s : ByteArray) (w : World) (hs : s.size ≤ maxLen) :
    Calls Try.prog 108 #[.string s] w fun e w' => e = .returned (.bool (rowB s.data.toList)) ∧ w' = w := by
  unfold maxLen at hs
  go_enter Try.func108, Try.ntmps108
  go_wp2
  go_loop [3] (fun i => ∃ k : Nat, k ≤ s.size ∧ i = .int .i64 k ∧ (rowL resN s.data.toList).length = k + (rowL resN (s.data.toList.drop k)).length) (fun i => s.size - (intOf i).toNat)
  case atStart => exact ⟨0, Nat.zero_le _, rfl, by simp⟩
  case round =>
    obtain ⟨k, hk, rfl, hr⟩ := hrel
    have HR := Lib.hid hr
    clear hr
    by_cases hlt : k < s.size
    · have hb : s[k].toNat ≤ 255 := byte_le _
      cases hp : resN s[k].toNat
      · go_wp2_with (go_at_call 67; refine (r_rest _ _ hb).mono ?_; rw [hp]; rintro e w' ⟨rfl, rfl⟩)
        go_ret
        refine ⟨ret_bool ?_, rfl⟩
        rw [Bool.eq_iff_iff, rowB_iff, HR.out, rowL_stop s k hlt hp, len_data]; simp; omega
      · go_wp2_with (go_at_call 67; refine (r_rest _ _ hb).mono ?_; rw [hp]; rintro e w' ⟨rfl, rfl⟩)
        go_round
        case rel => exact ⟨k + 1, by omega, by go_num, by rw [HR.out, rowL_step s k hlt hp]; omega⟩
        case measure => simp [intOf]; omega
    · have hr2 : (rowL resN s.data.toList).length = s.size := by rw [HR.out, List.drop_of_length_le (by simp; omega)]; simp [rowL]; omega
      have HR2 := Lib.hid hr2
      clear hr2
      by_cases h0 : s.size = 0
      · have e0 : s = ⟨#[]⟩ := by apply ByteArray.ext; exact Array.eq_empty_of_size_eq_zero h0
        subst e0
        go_wp2
        go_ret
        exact ⟨rfl, rfl⟩
      · have e1 := toList_ne (s := s) (by omega)
        go_wp2
        go_ret
        refine ⟨ret_bool ?_, rfl⟩
        rw [Bool.eq_iff_iff, rowB_iff, HR2.out, len_data]
        constructor
        · intro h
          have h' := of_decide_eq_true h
          exact ⟨h0, by omega, rfl⟩
        · intro h
          have h' := h.2.1
          exact decide_eq_true (by omega)

set_option maxHeartbeats 1000000 in
theorem r_Name (s : ByteArray) (w : World) (hs : s.size ≤ maxLen) :
    Calls Try.prog 69 #[.string s] w fun e w' => e = .returned (.bool (nameL s.data.toList)) ∧ w' = w := by
  rw [nameL_eq]
  cases hr : rowB s.data.toList
  · go_enter Try.func69, Try.ntmps69
    go_wp2_with (go_at_call 108; refine (r_row _ _ hs).mono ?_; rw [hr]; rintro e w' ⟨rfl, rfl⟩)
    go_ret
    exact ⟨rfl, rfl⟩
  · have hpos : 0 < s.size := by have := (rowB_iff _).1 hr; rw [len_data] at this; omega
    rw [head_data s hpos]
    have hb : s[0].toNat ≤ 255 := byte_le _
    have HS := Lib.hid hs
    clear hs
    cases hl : lowN s[0].toNat <;> cases hw : wordB s.data.toList
    all_goals
      go_enter Try.func69, Try.ntmps69
      go_wp2_with (first
        | (go_at_call 108; refine (r_row _ _ HS.out).mono ?_; rw [hr]; rintro e w' ⟨rfl, rfl⟩)
        | (go_at_call 65; refine (r_lower _ _ hb).mono ?_; rw [hl]; rintro e w' ⟨rfl, rfl⟩)
        | (go_at_call 68; refine (w_word _ _).mono ?_; rw [hw]; rintro e w' ⟨rfl, rfl⟩))
      go_ret
      exact ⟨rfl, rfl⟩
set_option maxHeartbeats 1000000 in
theorem r_Con (s : ByteArray) (w : World) (hs : s.size ≤ maxLen) :
    Calls Try.prog 70 #[.string s] w fun e w' => e = .returned (.bool (conL s.data.toList)) ∧ w' = w := by
  rw [conL_eq]
  cases hr : rowB s.data.toList
  · go_enter Try.func70, Try.ntmps70
    go_wp2_with (go_at_call 108; refine (r_row _ _ hs).mono ?_; rw [hr]; rintro e w' ⟨rfl, rfl⟩)
    go_ret
    exact ⟨rfl, rfl⟩
  · have hpos : 0 < s.size := by have := (rowB_iff _).1 hr; rw [len_data] at this; omega
    rw [head_data s hpos]
    have hb : s[0].toNat ≤ 255 := byte_le _
    have HS := Lib.hid hs
    clear hs
    cases hl : uppN s[0].toNat
    all_goals
      go_enter Try.func70, Try.ntmps70
      go_wp2_with (first
        | (go_at_call 108; refine (r_row _ _ HS.out).mono ?_; rw [hr]; rintro e w' ⟨rfl, rfl⟩)
        | (go_at_call 66; refine (r_upper _ _ hb).mono ?_; rw [hl]; rintro e w' ⟨rfl, rfl⟩))
      go_ret
      exact ⟨rfl, rfl⟩

end Go.Proofs.Ytccilgemfkdmkaa

namespace Go.Proofs.Ytccilgemfkdmkaa
open Go.RowKit
set_option linter.unusedVariables false
set_option linter.unusedSimpArgs false

/-- A token as a value. -/
def tokV (k : Int) (p : Int) (s : ByteArray) (n : Int) : Value := .agg #[.int .i64 k, .int .i64 p, .string s, .int .i64 n]
def twV (k : Int) (s : ByteArray) (n w : Int) : Value := .tuple #[tokV k 0 s n, .int .i64 w]
def noTok : Value := twV 0 ⟨#[]⟩ 0 0
theorem ret_tw {k k' n n' w w' : Int} {s s' : ByteArray} (h1 : k = k') (h2 : s = s') (h3 : n = n') (h4 : w = w') : Ending.returned (twV k s n w) = .returned (twV k' s' n' w') := by rw [h1, h2, h3, h4]

set_option maxHeartbeats 1000000 in
theorem t_sign (s : ByteArray) (w : World) (hs : s.size ≤ maxLen) :
    Calls Try.prog 96 #[.string s] w fun e w' => e = .returned (twV 5 s 0 (s.size : Int)) ∧ Below w.heap.size w w' := by
  have HM : Hid (s.size ≤ maxLen) := Lib.hid hs
  clear hs
  go_enter Try.func96, Try.ntmps96
  go_wp2
  refine bodyPost_ret (v := twV 5 s 0 (s.size : Int)) (by simp only [results, Try.results96]; go_simp; rfl) rfl ⟨rfl, ?_⟩
  go_grown

set_option maxHeartbeats 1000000 in
theorem t_name (s : ByteArray) (w : World) (hs : s.size ≤ maxLen) :
    Calls Try.prog 91 #[.string s] w fun e w' => e = .returned (if kindL s.data.toList = 0 then noTok else twV (kindL s.data.toList : Nat) s 0 (s.size : Int)) ∧ Below w.heap.size w w' := by
  have HM : Hid (s.size ≤ maxLen) := Lib.hid hs
  clear hs
  obtain ⟨k, hk⟩ : ∃ k, kindL s.data.toList = k := ⟨_, rfl⟩
  have HK := Lib.hid hk
  rw [hk]
  clear hk
  by_cases h0 : k = 0
  · subst h0
    go_enter Try.func91, Try.ntmps91
    go_wp2_with (go_at_call 114; refine (k_kind _ _ HM.out).mono ?_; rw [HK.out]; rintro e w' ⟨rfl, rfl⟩)
    refine bodyPost_ret (v := noTok) (by simp only [results, Try.results91]; go_simp; rfl) rfl ⟨rfl, ?_⟩
    go_grown
  · rw [if_neg h0]
    have e0 : ((k : Int) == 0) = false := by simp; omega
    go_enter Try.func91, Try.ntmps91
    go_wp2_with (go_at_call 114; refine (k_kind _ _ HM.out).mono ?_; rw [HK.out]; rintro e w' ⟨rfl, rfl⟩)
    refine bodyPost_ret (v := twV k s 0 (s.size : Int)) (by simp only [results, Try.results91]; go_simp; rfl) rfl ⟨rfl, ?_⟩
    go_grown

theorem ret_of {a b : Value} (h : a = b) : Ending.returned a = .returned b := by rw [h]
/-! ### Numbers of digits -/
def stepN (n : Nat) (c : UInt8) : Nat := n * 10 + (c.toNat - 48)
theorem numL_le_app (b : By) : ∀ n : Nat, n ≤ b.foldl stepN n := by
  induction b with
  | nil => intro n; exact Nat.le_refl _
  | cons c r ih => intro n; exact Nat.le_trans (by unfold stepN; omega) (ih (stepN n c))
theorem numL_take (l : By) (k : Nat) : numL (l.take k) ≤ numL l := by
  have : numL l = (l.drop k).foldl stepN (numL (l.take k)) := by
    show l.foldl stepN 0 = (l.drop k).foldl stepN ((l.take k).foldl stepN 0)
    rw [← List.foldl_append, List.take_append_drop]
  rw [this]; exact numL_le_app _ _
theorem take_snoc (s : ByteArray) (k : Nat) (h : k < s.size) : s.data.toList.take (k + 1) = s.data.toList.take k ++ [s[k]] := by
  rw [List.take_succ_eq_append_getElem (by simpa using h)]; rfl
theorem numL_snoc (s : ByteArray) (k : Nat) (h : k < s.size) : numL (s.data.toList.take (k + 1)) = numL (s.data.toList.take k) * 10 + (s[k].toNat - 48) := by
  rw [take_snoc s k h]; unfold numL; rw [List.foldl_append]; rfl
theorem all_at {p : Nat → Bool} (s : ByteArray) (ha : s.data.toList.all (fun c => p c.toNat) = true) (k : Nat) (h : k < s.size) : p s[k].toNat = true :=
  List.all_eq_true.1 ha _ (by
    have : s[k] = s.data.toList[k]'(by simpa using h) := rfl
    rw [this]; exact List.getElem_mem _)
def badInt (s : ByteArray) : Prop := (1 < s.size ∧ (s.data.toList.headD 0).toNat = 48) ∨ 2147483647 < numL s.data.toList
instance decBadInt (s : ByteArray) : Decidable (badInt s) := by unfold badInt; infer_instance

set_option maxHeartbeats 2000000 in
theorem t_int (s : ByteArray) (w : World) (hs : s.size ≤ maxLen) (ha : s.data.toList.all (fun c => digN c.toNat) = true) (hpos : 0 < s.size) :
    Calls Try.prog 94 #[.string s] w fun e w' => e = .returned (if badInt s then noTok else twV 3 ⟨#[]⟩ (numL s.data.toList : Nat) (s.size : Int)) ∧ Below w.heap.size w w' := by
  have HA := Lib.hid ha
  clear ha
  have hs2 : s.size ≤ 9223372036854775807 := hs
  clear hs
  have hb0 : s[0].toNat ≤ 255 := byte_le _
  have hh := head_data s hpos
  by_cases h1 : 1 < s.size ∧ s[0].toNat = 48
  · obtain ⟨h11, h12⟩ := h1
    rw [if_pos (show badInt s from .inl ⟨h11, by rw [hh]; exact h12⟩)]
    have e1 : ((s[0].toNat : Int) == 48) = true := by simp; omega
    clear hh h12
    go_enter Try.func94, Try.ntmps94
    go_wp2
    refine bodyPost_ret (v := noTok) (by simp only [results, Try.results94]; go_simp; rfl) rfl ⟨rfl, ?_⟩
    go_grown
  · have hbad : badInt s ↔ 2147483647 < numL s.data.toList := by
      unfold badInt; rw [hh]
      constructor
      · rintro (h | h)
        · exact absurd h h1
        · exact h
      · exact .inr
    have HB := Lib.hid hbad
    have e1 : 1 < s.size → ((s[0].toNat : Int) == 48) = false := fun h => by simp; omega
    clear hbad hh h1
    have E1 := Lib.hid e1
    clear e1
    obtain ⟨V, hV⟩ : ∃ V, (if badInt s then noTok else twV 3 ⟨#[]⟩ (numL s.data.toList : Nat) (s.size : Int)) = V := ⟨_, rfl⟩
    rw [hV]
    have HV := Lib.hid hV
    clear hV
    by_cases h11 : 1 < s.size
    · have e1 := E1.out h11
      go_enter Try.func94, Try.ntmps94
      go_wp2
      go_loopw [4, 17] (fun n i wr => ∃ k : Nat, k ≤ s.size ∧ i = .int .i64 k ∧ n = .int .i64 (numL (s.data.toList.take k) : Nat) ∧ numL (s.data.toList.take k) ≤ 2147483647 ∧ wr = w.alloc (.cells #[.int .i64 0, .int .i64 0, .string ⟨#[]⟩, .int .i64 0] 93)) (fun _ i _ => s.size - (intOf i).toNat)
      case atStart => exact ⟨0, Nat.zero_le _, rfl, rfl, by simp [numL], rfl⟩
      case round =>
        obtain ⟨k, hk, rfl, rfl, hn, rfl⟩ := hrel
        by_cases hlt : k < s.size
        · have hd := all_at s HA.out k hlt
          have hd2 : 48 ≤ s[k].toNat ∧ s[k].toNat ≤ 57 := by simpa [digN] using hd
          have hsn := numL_snoc s k hlt
          obtain ⟨d, hd3⟩ : ∃ d, s[k].toNat - 48 = d := ⟨_, rfl⟩
          obtain ⟨m, hm⟩ : ∃ m, numL (s.data.toList.take k) = m := ⟨_, rfl⟩
          have e2 : ((s[k].toNat : Int) - 48) % 256 = (d : Int) := by omega
          rw [hd3, hm] at hsn
          rw [hm] at hn ⊢
          have hd9 : d ≤ 9 := by omega
          have HS := Lib.hid hsn
          clear hsn hd hd2 hd3 hm
          by_cases hbig : 2147483647 < m * 10 + d
          · have hB : badInt s := HB.out.2 (Nat.lt_of_lt_of_le (by rw [HS.out]; exact hbig) (numL_take _ (k + 1)))
            go_wp2
            refine bodyPost_ret (v := noTok) (by simp only [results, Try.results94]; go_simp; rfl) rfl ⟨ret_of (by rw [← HV.out, if_pos hB]), ?_⟩
            go_grown
          · go_wp2
            go_roundw
            case rel => exact ⟨k + 1, by omega, by go_num, by rw [HS.out]; go_num, by rw [HS.out]; omega, trivial⟩
            case measure => simp [intOf]; omega
        · have hkk : k = s.size := by omega
          have htk : s.data.toList.take k = s.data.toList := List.take_of_length_le (by simp; omega)
          rw [htk] at hn ⊢
          have hnb : ¬ badInt s := fun h => by have := HB.out.1 h; omega
          clear htk
          go_wp2
          refine bodyPost_ret (v := twV 3 ⟨#[]⟩ (numL s.data.toList : Nat) (s.size : Int)) (by simp only [results, Try.results94]; go_simp; rfl) rfl ⟨ret_of (by rw [← HV.out, if_neg hnb]), ?_⟩
          go_grown
    · clear E1
      go_enter Try.func94, Try.ntmps94
      go_wp2
      go_loopw [4, 17] (fun n i wr => ∃ k : Nat, k ≤ s.size ∧ i = .int .i64 k ∧ n = .int .i64 (numL (s.data.toList.take k) : Nat) ∧ numL (s.data.toList.take k) ≤ 2147483647 ∧ wr = w.alloc (.cells #[.int .i64 0, .int .i64 0, .string ⟨#[]⟩, .int .i64 0] 93)) (fun _ i _ => s.size - (intOf i).toNat)
      case atStart => exact ⟨0, Nat.zero_le _, rfl, rfl, by simp [numL], rfl⟩
      case round =>
        obtain ⟨k, hk, rfl, rfl, hn, rfl⟩ := hrel
        by_cases hlt : k < s.size
        · have hd := all_at s HA.out k hlt
          have hd2 : 48 ≤ s[k].toNat ∧ s[k].toNat ≤ 57 := by simpa [digN] using hd
          have hsn := numL_snoc s k hlt
          obtain ⟨d, hd3⟩ : ∃ d, s[k].toNat - 48 = d := ⟨_, rfl⟩
          obtain ⟨m, hm⟩ : ∃ m, numL (s.data.toList.take k) = m := ⟨_, rfl⟩
          have e2 : ((s[k].toNat : Int) - 48) % 256 = (d : Int) := by omega
          rw [hd3, hm] at hsn
          rw [hm] at hn ⊢
          have hd9 : d ≤ 9 := by omega
          have HS := Lib.hid hsn
          clear hsn hd hd2 hd3 hm
          by_cases hbig : 2147483647 < m * 10 + d
          · have hB : badInt s := HB.out.2 (Nat.lt_of_lt_of_le (by rw [HS.out]; exact hbig) (numL_take _ (k + 1)))
            go_wp2
            refine bodyPost_ret (v := noTok) (by simp only [results, Try.results94]; go_simp; rfl) rfl ⟨ret_of (by rw [← HV.out, if_pos hB]), ?_⟩
            go_grown
          · go_wp2
            go_roundw
            case rel => exact ⟨k + 1, by omega, by go_num, by rw [HS.out]; go_num, by rw [HS.out]; omega, trivial⟩
            case measure => simp [intOf]; omega
        · have hkk : k = s.size := by omega
          have htk : s.data.toList.take k = s.data.toList := List.take_of_length_le (by simp; omega)
          rw [htk] at hn ⊢
          have hnb : ¬ badInt s := fun h => by have := HB.out.1 h; omega
          clear htk
          go_wp2
          refine bodyPost_ret (v := twV 3 ⟨#[]⟩ (numL s.data.toList : Nat) (s.size : Int)) (by simp only [results, Try.results94]; go_simp; rfl) rfl ⟨ret_of (by rw [← HV.out, if_neg hnb]), ?_⟩
          go_grown

end Go.Proofs.Ytccilgemfkdmkaa

namespace Go.Proofs.Ytccilgemfkdmkaa
open Go.RowKit
set_option linter.unusedVariables false
set_option linter.unusedSimpArgs false

theorem Try.u8Info : (Try.prog.info? 5).map (fun i => (i.zero, i.size, i.bytes)) = some (some (.int .u8 0), 1, 1) := by kernel_rfl
set_option maxHeartbeats 1000000 in
theorem s_prefix (s p : ByteArray) (w : World) :
    Calls Try.prog 87 #[.string s, .string p] w fun e w' => e = .returned (.bool (Lib.hasPrefix s.data.toList p.data.toList)) ∧ w' = w := by
  rw [← Lib.hasPrefix_of_take, ← Lib.size_eq, ← Lib.size_eq]
  go_enter Try.func87, Try.ntmps87
  go_wp2
  · rename_i h
    go_ret
    refine ⟨ret_bool ?_, rfl⟩
    rw [Lib.extract_toList, Lib.toList_data]
    simp [h]
  · rename_i h
    go_ret
    refine ⟨ret_bool ?_, rfl⟩
    simp [h]

/-- The first two bytes. -/
theorem prefix_two (s : ByteArray) (a b : UInt8) (k : Nat) (h : k < s.size) (ha : (s[k] == a) = true) : Lib.hasPrefix (s.data.toList.drop k) [a, b] = decide ((s.data.toList.drop (k + 1)).head? = some b) := by
  rw [drop_at s k h]
  generalize s.data.toList.drop (k + 1) = r
  have ha' : s[k] = a := by simpa using ha
  rw [ha']
  cases r with
  | nil => simp [Lib.hasPrefix]
  | cons x y => simp [Lib.hasPrefix]; rw [Bool.eq_iff_iff]; simp; exact eq_comm
theorem prefix_not (s : ByteArray) (a b : UInt8) (k : Nat) (h : k < s.size) (ha : s[k] ≠ a) : Lib.hasPrefix (s.data.toList.drop k) [a, b] = false := by
  rw [drop_at s k h]
  have h2 : (a == s[k]) = false := beq_false_of_ne (Ne.symm ha)
  simp [Lib.hasPrefix, List.isPrefixOf, h2]

set_option maxHeartbeats 4000000 in
set_option maxRecDepth 100000 in
theorem s_clone (s : ByteArray) (w : World) (hlim : s.size ≤ 1000000) :
    Calls Try.prog 53 #[.string s] w fun e w' => e = .returned (.string s) ∧ Below w.heap.size w w' := by
  by_cases h0 : s.size = 0
  · have hs : s = ⟨#[]⟩ := by
      apply ByteArray.ext
      exact Array.eq_empty_of_size_eq_zero h0
    subst hs
    go_enter Try.func53, Try.ntmps53
    go_wp2
    go_ret
    exact ⟨rfl, Below.refl _ _⟩
  · obtain ⟨i0, hi, hz0, hz1, hz2⟩ := info_parts Try.u8Info
    have hinfo : (Try.prog.info? 5).map (·.size) = some 1 := by rw [hi]; simp [hz1]
    have hco : Try.prog.cellsOf 5 = 1 := by simp [Program.cellsOf, hi, hz1]
    obtain ⟨M, hM⟩ : ∃ M, M = madeCells (Value.int .u8 0).cells (((s.size : Nat) : Int).toNat * i0.size) := ⟨_, rfl⟩
    have hMs : M.size = s.size := by rw [hM, size_madeCells, hz1]; simp
    have hmk : ∀ W : World, (Instr.makeSlice 22 (.int .i64 (s.size : Int)) (.int .i64 (s.size : Int))).run Try.prog W = .ok (.slice (some ⟨W.heap.size, 0, none⟩) s.size s.size) (W.alloc (.cells M 5)) := fun W => by
      have h := run_make (P := Try.prog) W 22 5 i0 (.int .u8 0) Try.underlying22 hi hz0 .i64 .i64 (s.size : Int) (s.size : Int) (by omega) (by omega) (by rw [hz2]; omega) (by omega)
      rw [← hM] at h
      simpa using h
    clear hM
    have hcp := Lib.run_copy_row_string (P := Try.prog) (w.alloc (.cells M 5)) 22 9 3 5 w.heap.size 0 s.size s.size s M 5 Try.underlying22 hinfo (heap_alloc_new w _) (Nat.le_refl _) (by omega)
    obtain ⟨Y, hY⟩ : ∃ Y, Y = (M.toList.take 0 ++ Lib.byteCells s.data.toList ++ M.toList.drop (0 + s.size)).toArray := ⟨_, rfl⟩
    rw [← hY] at hcp
    have hYl : Y.toList = Lib.byteCells s.data.toList := by
      rw [hY, List.toList_toArray, List.take_zero, List.nil_append, List.drop_of_length_le (by rw [Array.length_toList]; omega), List.append_nil]
    have hYs : Y.size = s.size := by rw [← Array.length_toList, hYl, Lib.byteCells_length, ← Lib.size_eq]
    have hgY : ((w.alloc (.cells M 5)).setRow w.heap.size Y).heap[w.heap.size]? = some (.cells Y 5 (0, 0)) := setRow_heap _ _ M _ 5 (0, 0) (heap_alloc_new w _)
    have hne : s.data.toList ≠ [] := fun e => h0 (by rw [Lib.size_eq, e]; rfl)
    have hUS := Lib.run_unsafeString_row (P := Try.prog) ((w.alloc (.cells M 5)).setRow w.heap.size Y) 155 3 9 5 Try.underlying155 hco w.heap.size Y.size (by unfold World.shape?; rw [hgY]) s.data.toList hne (by rw [← Lib.size_eq]; omega) (by rw [← Lib.size_eq]; omega)
      (fun j x hx => Lib.cells_of_row hgY Y.size j _ (by rw [List.take_of_length_le (by rw [Array.length_toList]; exact Nat.le_refl _), hYl]; simp [Lib.byteCells, hx]))
    rw [← Lib.size_eq] at hUS
    clear hY
    go_enter Try.func53, Try.ntmps53
    go_wp2
    go_ret
    have hb1 : Below w.heap.size w (w.alloc (.cells M 5)) := (Below.refl _ w).alloc (Nat.le_refl _) _
    have hb2 : Below w.heap.size (w.alloc (.cells M 5)) ((w.alloc (.cells M 5)).setRow w.heap.size Y) := ⟨rfl, rfl, rfl, by simp, fun k hk => setRow_other _ _ _ _ (by omega)⟩
    exact ⟨rfl, Lib.below_freeze (hb1.trans hb2) (p := ⟨w.heap.size, 0, none⟩) (Nat.le_refl _) _⟩

end Go.Proofs.Ytccilgemfkdmkaa

namespace Go.Proofs.Ytccilgemfkdmkaa
open Go.RowKit
set_option linter.unusedVariables false
set_option linter.unusedSimpArgs false

def strB (l : By) : ByteArray := ⟨l.toArray⟩
theorem strB_data (l : By) : (strB l).data.toList = l := by simp [strB]
theorem strB_size (l : By) : (strB l).size = l.length := by simp [strB, ByteArray.size]
theorem eq_strB {s : ByteArray} {l : By} (h : s.data.toList = l) : s = strB l := by apply ByteArray.ext; rw [← h]; simp [strB]
theorem ext_data (s : ByteArray) (i j : Nat) : (s.extract i j).data.toList = (s.data.toList.drop i).take (j - i) := by
  simp [ByteArray.data_extract, Array.toList_extract, List.extract]
theorem rowL_yes {p : Nat → Bool} {c : UInt8} {r : By} (h : p c.toNat = true) : rowL p (c :: r) = c :: rowL p r := by
  conv => lhs; unfold rowL
  rw [if_pos h]
theorem rowL_no {p : Nat → Bool} {c : UInt8} {r : By} (h : ¬ p c.toNat = true) : rowL p (c :: r) = [] := by
  unfold rowL; rw [if_neg h]
theorem rowL_take (p : Nat → Bool) : ∀ l : By, rowL p l = l.take (rowL p l).length
  | [] => rfl
  | c :: r => by
    have ih := rowL_take p r
    by_cases h : p c.toNat = true
    · rw [rowL_yes h, List.length_cons, List.take_succ_cons, ← ih]
    · rw [rowL_no h]; rfl
theorem rowL_all_p (p : Nat → Bool) : ∀ l : By, (rowL p l).all (fun c => p c.toNat) = true
  | [] => rfl
  | c :: r => by
    unfold rowL
    by_cases h : p c.toNat = true
    · rw [if_pos h, List.all_cons, h, rowL_all_p p r]; rfl
    · rw [if_neg h]; rfl
theorem ext_row (s : ByteArray) (p : Nat → Bool) : (s.extract 0 (rowL p s.data.toList).length).data.toList = rowL p s.data.toList := by
  rw [ext_data, List.drop_zero, Nat.sub_zero, ← rowL_take]
theorem row_bd (s : ByteArray) (p : Nat → Bool) : (rowL p s.data.toList).length ≤ s.size := by rw [← len_data]; exact rowL_le _ _

def twOf : Option Tw → Value
  | none => noTok
  | some t => twV (t.k : Nat) (strB t.s) (t.n : Nat) (t.w : Nat)

theorem hd_tail (s : ByteArray) (h : 0 < s.size) : s.data.toList = s[0] :: s.data.toList.drop 1 := by
  have := drop_at s 0 h; rwa [List.drop_zero] at this

theorem tokL_let (s : ByteArray) (h : 0 < s.size) (hl : letN s[0].toNat = true) (x : ByteArray) (hx : x.data.toList = rowL resN s.data.toList) :
    (if kindL x.data.toList = 0 then noTok else twV (kindL x.data.toList : Nat) x 0 (x.size : Int)) = twOf (tokL s.data.toList) := by
  have e : tokL s.data.toList = if kindL (rowL resN s.data.toList) = 0 then none else some ⟨kindL (rowL resN s.data.toList), rowL resN s.data.toList, 0, (rowL resN s.data.toList).length⟩ := by
    rw [hd_tail s h, tokL_cons, if_pos hl]
  rw [e, hx]
  split
  · rfl
  · have : x.size = (rowL resN s.data.toList).length := by rw [← hx, len_data]
    show _ = twV _ (strB (rowL resN s.data.toList)) _ _
    rw [← eq_strB hx, this]; rfl
theorem tokL_dig (s : ByteArray) (h : 0 < s.size) (hl : letN s[0].toNat = false) (hd : digN s[0].toNat = true) (x : ByteArray) (hx : x.data.toList = rowL digN s.data.toList) :
    (if badInt x then noTok else twV 3 ⟨#[]⟩ (numL x.data.toList : Nat) (x.size : Int)) = twOf (tokL s.data.toList) := by
  have hxs : x.size = (rowL digN s.data.toList).length := by rw [← hx, len_data]
  have hx0 : (x.data.toList.headD 0).toNat = s[0].toNat := by
    rw [hx, hd_tail s h]; unfold rowL; rw [if_pos hd]; rfl
  have e : tokL s.data.toList = if (1 < (rowL digN s.data.toList).length ∧ s[0].toNat = 48) ∨ 2147483647 < numL (rowL digN s.data.toList) then none else some ⟨3, [], numL (rowL digN s.data.toList), (rowL digN s.data.toList).length⟩ := by
    conv => lhs; rw [hd_tail s h]
    rw [tokL_cons, if_neg (by rw [hl]; simp), if_pos hd, ← hd_tail s h]
  have hb : badInt x ↔ (1 < (rowL digN s.data.toList).length ∧ s[0].toNat = 48) ∨ 2147483647 < numL (rowL digN s.data.toList) := by
    unfold badInt; rw [hx0, hxs, hx]
  rw [e]
  by_cases hc : badInt x
  · rw [if_pos hc, if_pos (hb.1 hc)]; rfl
  · rw [if_neg hc, if_neg (fun h => hc (hb.2 h)), hx, hxs]; rfl
theorem tokL_sig (s : ByteArray) (h : 0 < s.size) (hl : letN s[0].toNat = false) (hd : digN s[0].toNat = false) (hg : sigN s[0].toNat = true) (x : ByteArray) (hx : x = s.extract 0 1) :
    twV 5 x 0 (x.size : Int) = twOf (tokL s.data.toList) := by
  have e : tokL s.data.toList = some ⟨5, [s[0]], 0, 1⟩ := by
    conv => lhs; rw [hd_tail s h]
    rw [tokL_cons, if_neg (by rw [hl]; simp), if_neg (by rw [hd]; simp), if_pos hg]
  have hxd : x.data.toList = [s[0]] := by
    rw [hx, ext_data, List.drop_zero, hd_tail s h]; rfl
  have hxs : x.size = 1 := by rw [← len_data, hxd]; rfl
  rw [e, hxs]
  show _ = twV _ (strB [s[0]]) _ _
  rw [← eq_strB hxd]; rfl
theorem tokL_arrow (s : ByteArray) (h : 0 < s.size) (hl : letN s[0].toNat = false) (hd : digN s[0].toNat = false) (hg : sigN s[0].toNat = false) :
    (if Lib.hasPrefix s.data.toList [45, 62] = true then twV 5 ⟨#[45, 62]⟩ 0 2 else noTok) = twOf (tokL s.data.toList) := by
  have e : tokL s.data.toList = if s[0].toNat = 45 ∧ (s.data.toList.drop 1).head? = some 62 then some ⟨5, [45, 62], 0, 2⟩ else none := by
    conv => lhs; rw [hd_tail s h]
    rw [tokL_cons, if_neg (by rw [hl]; simp), if_neg (by rw [hd]; simp), if_neg (by rw [hg]; simp)]
  rw [e]
  by_cases h4 : s[0] = 45
  · have hp := prefix_two s 45 62 0 h (by rw [h4]; rfl)
    rw [List.drop_zero] at hp
    rw [hp]
    have h5 : s[0].toNat = 45 := by rw [h4]; rfl
    by_cases h6 : (s.data.toList.drop 1).head? = some 62
    · rw [if_pos (by simpa using h6), if_pos ⟨h5, h6⟩]; rfl
    · rw [if_neg (by simpa using h6), if_neg (fun hh => h6 hh.2)]; rfl
  · have hp := prefix_not s 45 62 0 h h4
    rw [List.drop_zero] at hp
    rw [hp, if_neg (by simp), if_neg (fun hh => h4 (by
      have := hh.1
      exact UInt8.toNat_inj.1 (by rw [this]; rfl)))]; rfl

section
variable {w w' : World} {b : Nat} {t : TypeId} {c0 c1 c2 c3 : Value}
theorem Box.fourb (h : Box w b t [c0, c1, c2, c3]) : w.cell? ⟨b, 0, none⟩ = some c0 ∧ w.cell? ⟨b, 1, none⟩ = some c1 ∧ w.cell? ⟨b, 2, none⟩ = some c2 ∧ w.cell? ⟨b, 3, none⟩ = some c3 ∧
    w.frozen? ⟨b, 0, none⟩ = false ∧ w.frozen? ⟨b, 1, none⟩ = false ∧ w.frozen? ⟨b, 2, none⟩ = false ∧ w.frozen? ⟨b, 3, none⟩ = false :=
  ⟨h.cell 0, h.cell 1, h.cell 2, h.cell 3, h.frozen 0, h.frozen 1, h.frozen 2, h.frozen 3⟩
end
theorem below_res {w w' : World} {o : Obj} (h : Below (w.alloc o).heap.size (w.alloc o) w') (v0 v1 v2 v3 : Value) :
    Below w.heap.size w ((((w'.setCell ⟨w.heap.size, 0, none⟩ v0).setCell ⟨w.heap.size, 1, none⟩ v1).setCell ⟨w.heap.size, 2, none⟩ v2).setCell ⟨w.heap.size, 3, none⟩ v3) := by
  have h0 : Below w.heap.size w w' := ((Below.refl _ _).alloc (Nat.le_refl _) _).trans (h.mono (by simp))
  exact (((h0.setCell (p := ⟨w.heap.size, 0, none⟩) (Nat.le_refl _) _).setCell (p := ⟨w.heap.size, 1, none⟩) (Nat.le_refl _) _).setCell (p := ⟨w.heap.size, 2, none⟩) (Nat.le_refl _) _).setCell (p := ⟨w.heap.size, 3, none⟩) (Nat.le_refl _) _

set_option maxRecDepth 100000 in
set_option maxHeartbeats 2000000 in
theorem t_token (s : ByteArray) (w : World) (hs : s.size ≤ 1000000) (hpos : 0 < s.size) :
    Calls Try.prog 52 #[.string s] w fun e w' => e = .returned (twOf (tokL s.data.toList)) ∧ Below w.heap.size w w' := by
  have hs2 : s.size ≤ maxLen := by unfold maxLen; omega
  have hb : s[0].toNat ≤ 255 := byte_le _
  have b0 := Box.new w 93 [.int .i64 0, .int .i64 0, .string ⟨#[]⟩, .int .i64 0]
  obtain ⟨V, hV⟩ : ∃ V, twOf (tokL s.data.toList) = V := ⟨_, rfl⟩
  rw [hV]
  have HV := Lib.hid hV
  have HS := Lib.hid hs2
  have HB := Lib.hid b0
  clear hV hs2 b0
  cases hl : letN s[0].toNat
  · cases hd : digN s[0].toNat
    · cases hg : sigN s[0].toNat
      · have ha := tokL_arrow s hpos hl hd hg
        rw [HV.out] at ha
        obtain ⟨z, hz⟩ : ∃ z, Lib.hasPrefix s.data.toList [45, 62] = z := ⟨_, rfl⟩
        rw [hz] at ha
        have HZ := Lib.hid hz
        have HA := Lib.hid ha
        clear hz ha
        cases z
        · go_enter Try.func52, Try.ntmps52
          go_wp2_with (first
            | (go_at_call 90; refine (p_isLetter _ _ hb).mono ?_; rw [hl]; rintro e w' ⟨rfl, rfl⟩)
            | (go_at_call 93; refine (p_isDigit _ _ hb).mono ?_; rw [hd]; rintro e w' ⟨rfl, rfl⟩)
            | (go_at_call 95; refine (p_isSign _ _ hb).mono ?_; rw [hg]; rintro e w' ⟨rfl, rfl⟩)
            | (go_at_call 87; refine (s_prefix _ _ _).mono ?_; rw [show Lib.hasPrefix s.data.toList (ByteArray.mk #[45, 62]).data.toList = _ from HZ.out]; rintro e w' ⟨rfl, rfl⟩))
          refine bodyPost_ret (v := noTok) (by simp only [results, Try.results52]; go_simp; rfl) rfl ⟨ret_of HA.out, ?_⟩
          go_grown
        · go_enter Try.func52, Try.ntmps52
          go_wp2_with (first
            | (go_at_call 90; refine (p_isLetter _ _ hb).mono ?_; rw [hl]; rintro e w' ⟨rfl, rfl⟩)
            | (go_at_call 93; refine (p_isDigit _ _ hb).mono ?_; rw [hd]; rintro e w' ⟨rfl, rfl⟩)
            | (go_at_call 95; refine (p_isSign _ _ hb).mono ?_; rw [hg]; rintro e w' ⟨rfl, rfl⟩)
            | (go_at_call 87; refine (s_prefix _ _ _).mono ?_; rw [show Lib.hasPrefix s.data.toList (ByteArray.mk #[45, 62]).data.toList = _ from HZ.out]; rintro e w' ⟨rfl, rfl⟩)
            | (go_at_call 96; refine (t_sign _ _ (by show (2 : Nat) ≤ maxLen; unfold maxLen; omega)).mono ?_; rintro e w' ⟨rfl, hb2⟩; have bx := HB.out.below hb2; obtain ⟨_, _, _, _, _, _, _, _⟩ := bx.fourb; unfold twV tokV))
          refine bodyPost_ret (v := twV 5 ⟨#[45, 62]⟩ 0 2) (by simp only [results, Try.results52]; go_simp; rfl) rfl ⟨ret_of HA.out, ?_⟩
          exact below_res hb2 _ _ _ _
      · obtain ⟨x, hx⟩ : ∃ x, s.extract 0 1 = x := ⟨_, rfl⟩
        have hxm : x.size ≤ maxLen := by rw [← hx, ByteArray.size_extract]; unfold maxLen; omega
        have HA := Lib.hid ((tokL_sig s hpos hl hd hg x hx.symm).trans HV.out)
        have HM := Lib.hid hxm
        have T : ∀ W, Sem.run Try.prog (Instr.slice 9 (.string s) none (some (.int .i64 1)) none) W = .ok (.string x) W := fun W => by
          have h := run_slice_string_to_if (P := Try.prog) W 9 s .i64 1 Try.underlying9
          rw [if_pos (by omega), show (1 : Int).toNat = 1 from rfl, hx] at h
          exact h
        clear hx hxm
        go_enter Try.func52, Try.ntmps52
        go_wp2_with (first
          | (go_at_call 90; refine (p_isLetter _ _ hb).mono ?_; rw [hl]; rintro e w' ⟨rfl, rfl⟩)
          | (go_at_call 93; refine (p_isDigit _ _ hb).mono ?_; rw [hd]; rintro e w' ⟨rfl, rfl⟩)
          | (go_at_call 95; refine (p_isSign _ _ hb).mono ?_; rw [hg]; rintro e w' ⟨rfl, rfl⟩)
          | (go_at_call 96; refine (t_sign _ _ HM.out).mono ?_; rintro e w' ⟨rfl, hb2⟩; have bx := HB.out.below hb2; obtain ⟨_, _, _, _, _, _, _, _⟩ := bx.fourb; unfold twV tokV))
        refine bodyPost_ret (v := twV 5 x 0 x.size) (by simp only [results, Try.results52]; go_simp; rfl) rfl ⟨ret_of HA.out, ?_⟩
        exact below_res hb2 _ _ _ _
    · obtain ⟨n, hn⟩ : ∃ n, (rowL digN s.data.toList).length = n := ⟨_, rfl⟩
      obtain ⟨x, hx⟩ : ∃ x, s.extract 0 n = x := ⟨_, rfl⟩
      have hns : n ≤ s.size := by rw [← hn]; exact row_bd _ _
      have hxd : x.data.toList = rowL digN s.data.toList := by rw [← hx, ← hn]; exact ext_row _ _
      have hxs : x.size = n := by rw [← len_data, hxd, hn]
      have hn0 : 0 < n := by rw [← hn, hd_tail s hpos, rowL_yes hd, List.length_cons]; omega
      have hxa : x.data.toList.all (fun c => digN c.toNat) = true := by rw [hxd]; exact rowL_all_p _ _
      have HX := Lib.hid (And.intro (show x.size ≤ maxLen by unfold maxLen; omega) (And.intro hxa (show 0 < x.size by omega)))
      have ha := (tokL_dig s hpos hl hd x hxd).trans HV.out
      have HN := Lib.hid hn
      have T : ∀ W, Sem.run Try.prog (Instr.slice 9 (.string s) none (some (.int .i64 (n : Int))) none) W = .ok (.string x) W := fun W => by
        have h := run_slice_string_to_if (P := Try.prog) W 9 s .i64 (n : Int) Try.underlying9
        rw [if_pos (by omega), show ((n : Nat) : Int).toNat = n from rfl, hx] at h
        exact h
      clear hx hn hns hxd hxs hn0 hxa
      by_cases hc : badInt x
      · rw [if_pos hc] at ha
        have HA := Lib.hid ha
        clear ha
        go_enter Try.func52, Try.ntmps52
        go_wp2_with (first
          | (go_at_call 90; refine (p_isLetter _ _ hb).mono ?_; rw [hl]; rintro e w' ⟨rfl, rfl⟩)
          | (go_at_call 93; refine (p_isDigit _ _ hb).mono ?_; rw [hd]; rintro e w' ⟨rfl, rfl⟩)
          | (go_at_call 88; refine (row_isDigit _ _ HS.out).mono ?_; rw [HN.out]; rintro e w' ⟨rfl, rfl⟩)
          | (go_at_call 94; refine (t_int _ _ HX.out.1 HX.out.2.1 HX.out.2.2).mono ?_; rw [if_pos hc]; rintro e w' ⟨rfl, hb2⟩; have bx := HB.out.below hb2; obtain ⟨_, _, _, _, _, _, _, _⟩ := bx.fourb; unfold noTok twV tokV))
        refine bodyPost_ret (v := noTok) (by simp only [results, Try.results52]; go_simp; rfl) rfl ⟨ret_of HA.out, ?_⟩
        exact below_res hb2 _ _ _ _
      · rw [if_neg hc] at ha
        have HA := Lib.hid ha
        clear ha
        go_enter Try.func52, Try.ntmps52
        go_wp2_with (first
          | (go_at_call 90; refine (p_isLetter _ _ hb).mono ?_; rw [hl]; rintro e w' ⟨rfl, rfl⟩)
          | (go_at_call 93; refine (p_isDigit _ _ hb).mono ?_; rw [hd]; rintro e w' ⟨rfl, rfl⟩)
          | (go_at_call 88; refine (row_isDigit _ _ HS.out).mono ?_; rw [HN.out]; rintro e w' ⟨rfl, rfl⟩)
          | (go_at_call 94; refine (t_int _ _ HX.out.1 HX.out.2.1 HX.out.2.2).mono ?_; rw [if_neg hc]; rintro e w' ⟨rfl, hb2⟩; have bx := HB.out.below hb2; obtain ⟨_, _, _, _, _, _, _, _⟩ := bx.fourb; unfold twV tokV))
        refine bodyPost_ret (v := twV 3 ⟨#[]⟩ (numL x.data.toList : Nat) (x.size : Int)) (by simp only [results, Try.results52]; go_simp; rfl) rfl ⟨ret_of HA.out, ?_⟩
        exact below_res hb2 _ _ _ _
  · obtain ⟨n, hn⟩ : ∃ n, (rowL resN s.data.toList).length = n := ⟨_, rfl⟩
    obtain ⟨x, hx⟩ : ∃ x, s.extract 0 n = x := ⟨_, rfl⟩
    have hns : n ≤ s.size := by rw [← hn]; exact row_bd _ _
    have hxd : x.data.toList = rowL resN s.data.toList := by rw [← hx, ← hn]; exact ext_row _ _
    have hxs : x.size = n := by rw [← len_data, hxd, hn]
    have HX := Lib.hid (show x.size ≤ maxLen by unfold maxLen; omega)
    have ha := (tokL_let s hpos hl x hxd).trans HV.out
    have HN := Lib.hid hn
    have T : ∀ W, Sem.run Try.prog (Instr.slice 9 (.string s) none (some (.int .i64 (n : Int))) none) W = .ok (.string x) W := fun W => by
      have h := run_slice_string_to_if (P := Try.prog) W 9 s .i64 (n : Int) Try.underlying9
      rw [if_pos (by omega), show ((n : Nat) : Int).toNat = n from rfl, hx] at h
      exact h
    clear hx hn hns hxd hxs
    by_cases hc : kindL x.data.toList = 0
    · rw [if_pos hc] at ha
      have HA := Lib.hid ha
      clear ha
      go_enter Try.func52, Try.ntmps52
      go_wp2_with (first
        | (go_at_call 90; refine (p_isLetter _ _ hb).mono ?_; rw [hl]; rintro e w' ⟨rfl, rfl⟩)
        | (go_at_call 88; refine (row_isOfName _ _ HS.out).mono ?_; rw [HN.out]; rintro e w' ⟨rfl, rfl⟩)
        | (go_at_call 91; refine (t_name _ _ HX.out).mono ?_; rw [if_pos hc]; rintro e w' ⟨rfl, hb2⟩; have bx := HB.out.below hb2; obtain ⟨_, _, _, _, _, _, _, _⟩ := bx.fourb; unfold noTok twV tokV))
      refine bodyPost_ret (v := noTok) (by simp only [results, Try.results52]; go_simp; rfl) rfl ⟨ret_of HA.out, ?_⟩
      exact below_res hb2 _ _ _ _
    · rw [if_neg hc] at ha
      have HA := Lib.hid ha
      clear ha
      go_enter Try.func52, Try.ntmps52
      go_wp2_with (first
        | (go_at_call 90; refine (p_isLetter _ _ hb).mono ?_; rw [hl]; rintro e w' ⟨rfl, rfl⟩)
        | (go_at_call 88; refine (row_isOfName _ _ HS.out).mono ?_; rw [HN.out]; rintro e w' ⟨rfl, rfl⟩)
        | (go_at_call 91; refine (t_name _ _ HX.out).mono ?_; rw [if_neg hc]; rintro e w' ⟨rfl, hb2⟩; have bx := HB.out.below hb2; obtain ⟨_, _, _, _, _, _, _, _⟩ := bx.fourb; unfold twV tokV))
      refine bodyPost_ret (v := twV (kindL x.data.toList : Nat) x 0 (x.size : Int)) (by simp only [results, Try.results52]; go_simp; rfl) rfl ⟨ret_of HA.out, ?_⟩
      exact below_res hb2 _ _ _ _

end Go.Proofs.Ytccilgemfkdmkaa

namespace Go.Proofs.Ytccilgemfkdmkaa
open Go.RowKit
set_option linter.unusedVariables false
set_option linter.unusedSimpArgs false

abbrev D (s : ByteArray) (k : Nat) : By := s.data.toList.drop k
/-- Nothing at k goes: no blank, no remark. -/
def Stands (s : ByteArray) (k : Nat) : Prop := ∀ h : k < s.size, blaN s[k].toNat = false ∧ ¬ (s[k].toNat = 45 ∧ (D s (k + 1)).head? = some 45)

theorem ext_from (s : ByteArray) (k : Nat) : (s.extract k s.size).data.toList = D s k := by
  rw [ext_data, List.take_of_length_le (by simp)]
theorem lex_blank (s : ByteArray) (k : Nat) (h : k < s.size) (hb : blaN s[k].toNat = true) : lexL (D s k) k = lexL (D s (k + 1)) (k + 1) := by
  unfold D; rw [drop_at s k h, lexL_blank k hb]
theorem dash_of {c : UInt8} (h : c.toNat = 45) : c = 45 := UInt8.toNat_inj.1 (by rw [h]; rfl)
theorem rem_iff (s : ByteArray) (k : Nat) (h : k < s.size) (z : Bool) (hz : Lib.hasPrefix (D s k) [45, 45] = z) : z = true ↔ (s[k].toNat = 45 ∧ (D s (k + 1)).head? = some 45) := by
  subst hz
  by_cases h4 : s[k] = 45
  · rw [prefix_two s 45 45 k h (by rw [h4]; rfl)]
    rw [h4]; simp [D]
  · rw [prefix_not s 45 45 k h h4]
    simp only [Bool.false_eq_true, false_iff]
    exact fun hh => h4 (dash_of hh.1)
theorem lex_rem (s : ByteArray) (k : Nat) (h : k < s.size) (hr : s[k].toNat = 45 ∧ (D s (k + 1)).head? = some 45) (m : Nat) (hm : (rowL noNl (D s k)).length = m) :
    0 < m ∧ k + m ≤ s.size ∧ lexL (D s k) k = lexL (D s (k + m)) (k + m) := by
  have hd := drop_at s k h
  have hn : noNl s[k].toNat = true := by rw [hr.1]; rfl
  have e1 : (rowL noNl (D s k)).length = (rowL noNl (D s (k + 1))).length + 1 := by unfold D; rw [hd, rowL_yes hn]; rfl
  have hle := rowL_le noNl (D s k)
  have hl : (D s k).length = s.size - k := by unfold D; rw [List.length_drop, len_data]
  refine ⟨by omega, by omega, ?_⟩
  have e2 := lexL_rem (b := s[k]) (r := D s (k + 1)) k hr.1 hr.2
  rw [show D s k = s[k] :: D s (k + 1) from hd, e2]
  have e3 : (D s (k + 1)).drop (rowL noNl (D s (k + 1))).length = D s (k + m) := by
    unfold D at *; rw [List.drop_drop]; congr 1; omega
  rw [e3]; congr 1; omega

set_option maxRecDepth 100000 in
set_option maxHeartbeats 2000000 in
theorem t_skip (s : ByteArray) (a : Nat) (w : World) (hs : s.size ≤ 1000000) (ha : a ≤ s.size) :
    Calls Try.prog 51 #[.string s, .int .i64 (a : Int)] w fun e w' => ∃ k : Nat, e = .returned (.int .i64 (k : Int)) ∧ a ≤ k ∧ k ≤ s.size ∧ lexL (D s a) a = lexL (D s k) k ∧ Stands s k ∧ w' = w := by
  go_enter Try.func51, Try.ntmps51
  go_wp2
  go_loop [1] (fun i => ∃ k : Nat, a ≤ k ∧ k ≤ s.size ∧ i = .int .i64 k ∧ lexL (D s a) a = lexL (D s k) k) (fun i => s.size - (intOf i).toNat)
  case atStart => exact ⟨a, Nat.le_refl _, ha, rfl, rfl⟩
  case round =>
    obtain ⟨k, hak, hk, rfl, hr⟩ := hrel
    have HR := Lib.hid hr
    clear hr
    by_cases hlt : k < s.size
    · have hb : s[k].toNat ≤ 255 := byte_le _
      cases hl : blaN s[k].toNat
      · obtain ⟨x, hx⟩ : ∃ x, s.extract k s.size = x := ⟨_, rfl⟩
        have hxd : x.data.toList = D s k := by rw [← hx]; exact ext_from s k
        have hxs : x.size ≤ maxLen := by rw [← len_data, hxd]; unfold D maxLen; rw [List.length_drop, len_data]; omega
        have T : ∀ W, Sem.run Try.prog (Instr.slice 9 (.string s) (some (.int .i64 (k : Int))) none none) W = .ok (.string x) W := fun W => by
          have h := run_slice_string_from_if (P := Try.prog) W 9 s .i64 (k : Int) Try.underlying9
          rw [if_pos (by omega), show ((k : Nat) : Int).toNat = k from rfl, hx] at h
          exact h
        have HX := Lib.hid hxs
        have HD := Lib.hid hxd
        obtain ⟨z, hz⟩ : ∃ z, Lib.hasPrefix (D s k) [45, 45] = z := ⟨_, rfl⟩
        have HZ := Lib.hid hz
        obtain ⟨m, hm⟩ : ∃ m, (rowL noNl (D s k)).length = m := ⟨_, rfl⟩
        have HM := Lib.hid hm
        have hZ : Lib.hasPrefix x.data.toList [45, 45] = z := by rw [hxd]; exact hz
        have HZX := Lib.hid hZ
        have HMX := Lib.hid (show (rowL noNl x.data.toList).length = m by rw [hxd]; exact hm)
        clear hx hxd hxs hz hm hZ
        cases z
        · go_wp2_with (first
            | (go_at_call 86; refine (p_isBlank _ _ hb).mono ?_; rw [hl]; rintro e w' ⟨rfl, rfl⟩)
            | (go_at_call 87; refine (s_prefix _ _ _).mono ?_; rw [show Lib.hasPrefix x.data.toList (ByteArray.mk #[45, 45]).data.toList = _ from HZX.out]; rintro e w' ⟨rfl, rfl⟩))
          go_ret
          refine ⟨k, rfl, hak, hk, HR.out, fun h => ⟨hl, fun hh => ?_⟩, rfl⟩
          have := (rem_iff s k h false HZ.out).2 hh
          cases this
        · have hrr := lex_rem s k hlt ((rem_iff s k hlt true HZ.out).1 rfl) m HM.out
          obtain ⟨hm0, hms, hle⟩ := hrr
          have HL := Lib.hid hle
          clear hle
          go_wp2_with (first
            | (go_at_call 86; refine (p_isBlank _ _ hb).mono ?_; rw [hl]; rintro e w' ⟨rfl, rfl⟩)
            | (go_at_call 87; refine (s_prefix _ _ _).mono ?_; rw [show Lib.hasPrefix x.data.toList (ByteArray.mk #[45, 45]).data.toList = _ from HZX.out]; rintro e w' ⟨rfl, rfl⟩)
            | (go_at_call 88; refine (row_isInLine _ _ HX.out).mono ?_; rw [HMX.out]; rintro e w' ⟨rfl, rfl⟩))
          go_round
          case rel => exact ⟨k + m, by omega, by omega, by go_num, by rw [HR.out, HL.out]⟩
          case measure => simp [intOf]; omega
      · have hle := lex_blank s k hlt hl
        have HL := Lib.hid hle
        clear hle
        go_wp2_with (go_at_call 86; refine (p_isBlank _ _ hb).mono ?_; rw [hl]; rintro e w' ⟨rfl, rfl⟩)
        go_round
        case rel => exact ⟨k + 1, by omega, by omega, by go_num, by rw [HR.out, HL.out]⟩
        case measure => simp [intOf]; omega
    · go_wp2
      go_ret
      exact ⟨k, rfl, hak, hk, HR.out, fun h => absurd h hlt, rfl⟩

end Go.Proofs.Ytccilgemfkdmkaa

namespace Go.Proofs.Ytccilgemfkdmkaa
open Go.RowKit
set_option linter.unusedVariables false
set_option linter.unusedSimpArgs false

theorem Try.tokInfo : (Try.prog.info? 93).map (fun i => (i.zero, i.size, i.bytes)) = some (some (.agg #[.int .i64 0, .int .i64 0, .string ⟨#[]⟩, .int .i64 0]), 4, 40) := by kernel_rfl

/-- A token's cells. -/
def tkC (t : Tk) : List Value := [.int .i64 (t.k : Int), .int .i64 (t.p : Int), .string (strB t.s), .int .i64 (t.n : Int)]
theorem tkC_length (t : Tk) : (tkC t).length = 4 := rfl
def tkCs (ts : List Tk) : List Value := ts.flatMap tkC
theorem tkCs_snoc (ts : List Tk) (t : Tk) : tkCs (ts ++ [t]) = tkCs ts ++ tkC t := by unfold tkCs; simp
/-- What Lex tells: tokens in new memory, or an error. -/
def LexOut (w : World) (x : Lx) (v : Value) (E A : Int) (w' : World) : Prop :=
  match x with
  | Sum.inl i => v = .slice none 0 0 ∧ E = 3 ∧ A = i
  | Sum.inr ts => w'.ownsRow w.heap.size 93 4 v ts.length (tkCs ts) ∧ E = 0 ∧ A = 0

theorem tok_len (s : ByteArray) (k : Nat) (h : k < s.size) : (D s k).length = s.size - k := by unfold D; rw [List.length_drop, len_data]
theorem lex_bad (s : ByteArray) (k : Nat) (h : k < s.size) (hs : Stands s k) (ht : tokL (D s k) = none) : lexL (D s k) k = .bad k := by
  have hd := drop_at s k h
  rw [show D s k = s[k] :: D s (k + 1) from hd] at ht ⊢
  exact lexL_bad k (hs h).1 (hs h).2 ht
theorem lex_tok (s : ByteArray) (k : Nat) (h : k < s.size) (hs : Stands s k) {t : Tw} (ht : tokL (D s k) = some t) : 0 < t.w ∧ k + t.w ≤ s.size ∧ lexL (D s k) k = (lexL (D s (k + t.w)) (k + t.w)).pre [t.at k] := by
  have hp := tokL_pos ht
  rw [tok_len s k h] at hp
  refine ⟨hp.1, by omega, ?_⟩
  have hd := drop_at s k h
  have ht' := ht
  rw [show D s k = s[k] :: D s (k + 1) from hd] at ht ⊢
  rw [lexL_tok k (hs h).1 (hs h).2 ht, ← show D s k = s[k] :: D s (k + 1) from hd]
  unfold D
  rw [List.drop_drop]

theorem own_agree {w w' : World} {base n size : Nat} {e : TypeId} {v : Value} {xs : List Value} (h : w.ownsRow base e size v n xs) (hb : ∀ q, v.ownBlock = some q → w'.heap[q]? = w.heap[q]?) : w'.ownsRow base e size v n xs := by
  obtain ⟨h1, h2 | ⟨q, cap, cur, rfl, hb', hq, r⟩⟩ := h
  · exact ⟨h1, .inl h2⟩
  · exact ⟨h1, .inr ⟨q, cap, cur, rfl, hb', (hb q rfl).trans hq, r⟩⟩
theorem own_step {wr w1 w2 : World} {base n size : Nat} {e : TypeId} {v : Value} {xs : List Value} {o o2 : Obj} (ho : wr.ownsRow base e size v n xs) (h1 : Below wr.heap.size wr w1) (h2 : Below (w1.alloc o).heap.size (w1.alloc o) w2) (c : Value) :
    ((w2.setCell ⟨w1.heap.size, 2, none⟩ c).alloc o2).ownsRow base e size v n xs :=
  own_agree ho fun q hq => by
    have hlt := (ho.lt q hq).2
    have h3 := h1.size
    have h4 := h2.size
    have h5 : w1.heap.size < (w1.alloc o).heap.size := by simp
    have h6 : (w2.setCell ⟨w1.heap.size, 2, none⟩ c).heap.size = w2.heap.size := by simp [World.setCell]
    exact (Below.heap_alloc _ o2 q (by omega)).trans ((Below.heap_setCell w2 ⟨w1.heap.size, 2, none⟩ c q (by show q ≠ w1.heap.size; omega)).trans ((h2.block q (by omega)).trans ((Below.heap_alloc w1 o q (by omega)).trans (h1.block q hlt))))
theorem below_step {w wr w1 w2 : World} {o o2 : Obj} (h0 : Below w.heap.size w wr) (h1 : Below wr.heap.size wr w1) (h2 : Below (w1.alloc o).heap.size (w1.alloc o) w2) (c : Value) :
    Below w.heap.size w ((w2.setCell ⟨w1.heap.size, 2, none⟩ c).alloc o2) := by
  have h3 := h0.size
  have h4 := h1.size
  have h5 := h2.size
  have h6 : (w1.alloc o).heap.size = w1.heap.size + 1 := by simp
  have h7 : (w2.setCell ⟨w1.heap.size, 2, none⟩ c).heap.size = w2.heap.size := by simp [World.setCell]
  have a1 : Below w.heap.size w w1 := h0.trans (h1.mono h3)
  have a2 : Below w.heap.size w w2 := (a1.alloc (by omega) o).trans (h2.mono (by omega))
  exact (a2.setCell (p := ⟨w1.heap.size, 2, none⟩) (by show w.heap.size ≤ w1.heap.size; omega) c).alloc (by omega) o2
theorem news_of {w : World} {t : TypeId} {cs : List Value} {H : Nat} (hH : w.heap.size = H) : ∀ j u, cs[j]? = some u → (w.alloc (.cells cs.toArray t)).cell? ((⟨H, 0, none⟩ : Addr).add j) = some u := fun j u hu => by
  rw [Addr.add_lit, Nat.zero_add, ← hH, (Box.new w t cs).cell j]; exact hu
theorem tkC_one (t : Tk) : ∀ u ∈ tkC t, u.oneCell' = true := by
  intro u hu; simp [tkC] at hu; rcases hu with rfl | rfl | rfl | rfl <;> rfl
theorem tokL_len {l : By} {t : Tw} (h : tokL l = some t) : t.s.length ≤ t.w := by
  cases l with
  | nil => cases h
  | cons b r =>
    rw [tokL_cons] at h
    split at h
    · split at h
      · cases h
      · cases h; exact Nat.le_refl _
    · split at h
      · split at h
        · cases h
        · cases h; exact Nat.zero_le _
      · split at h
        · cases h; exact Nat.le_refl _
        · split at h
          · cases h; exact Nat.le_refl _
          · cases h

set_option maxRecDepth 100000 in
set_option maxHeartbeats 4000000 in
theorem t_lex (s : ByteArray) (w : World) (hs : s.size ≤ 65536) :
    Calls Try.prog 24 #[.string s] w fun e w' => ∃ v E A, e = .returned (.tuple #[v, .int .i64 E, .int .i64 A]) ∧ LexOut w (lexL s.data.toList 0) v E A w' ∧ Below w.heap.size w w' := by
  obtain ⟨i0, hi0, hz0, hz1, hz2⟩ := info_parts Try.tokInfo
  have hs6 : s.size ≤ 1000000 := by omega
  go_enter Try.func24, Try.ntmps24
  go_wp2_with (go_at_call 51; refine (t_skip s 0 _ hs6 (Nat.zero_le _)).mono ?_; rintro e w' ⟨k0, rfl, _, hk0, hl0, hst0, hw⟩; have hw := hw.symm; subst hw)
  go_loopw [2, 4] (fun v i wr => ∃ (k : Nat) (ts : List Tk), k ≤ s.size ∧ i = .int .i64 (k : Int) ∧ ts.length ≤ k ∧ wr.ownsRow w.heap.size 93 4 v ts.length (tkCs ts) ∧ lexL s.data.toList 0 = (lexL (D s k) k).pre ts ∧ Stands s k ∧ Below w.heap.size w wr) (fun _ i _ => s.size - (intOf i).toNat)
  case atStart => exact ⟨k0, [], hk0, rfl, Nat.zero_le _, World.ownsRow_nil _ _ _ _, by rw [Lx.pre_nil]; exact hl0, hst0, Below.refl _ _⟩
  case round =>
    obtain ⟨k, ts, hk, rfl, hn, ho, hr, hst, hbw⟩ := hrel
    clear hl0 hst0 hk0
    have HR := Lib.hid hr
    have HO := Lib.hid ho
    have HST := Lib.hid hst
    have HBW := Lib.hid hbw
    clear hr ho hst hbw
    by_cases hlt : k < s.size
    · obtain ⟨x, hx⟩ : ∃ x, s.extract k s.size = x := ⟨_, rfl⟩
      have hxd : x.data.toList = D s k := by rw [← hx]; exact ext_from s k
      have hxs : x.size = s.size - k := by rw [← len_data, hxd, tok_len s k hlt]
      have T : ∀ W, Sem.run Try.prog (Instr.slice 9 (.string s) (some (.int .i64 (k : Int))) none none) W = .ok (.string x) W := fun W => by
        have h := run_slice_string_from_if (P := Try.prog) W 9 s .i64 (k : Int) Try.underlying9
        rw [if_pos (by omega), show ((k : Nat) : Int).toNat = k from rfl, hx] at h
        exact h
      have HX := Lib.hid (And.intro (show x.size ≤ 1000000 by omega) (show 0 < x.size by omega))
      obtain ⟨o, ho⟩ : ∃ o, tokL (D s k) = o := ⟨_, rfl⟩
      have HT := Lib.hid (show tokL x.data.toList = o by rw [hxd]; exact ho)
      have HTO := Lib.hid ho
      clear hx hxd hxs ho
      cases o with
      | none =>
        go_wp2_with (go_at_call 52; refine (t_token x _ HX.out.1 HX.out.2).mono ?_; rw [HT.out]; rintro e w1 ⟨rfl, hb1⟩; unfold twOf noTok twV tokV)
        refine bodyPost_ret (v := .tuple #[.slice none 0 0, .int .i64 3, .int .i64 (k : Int)]) (by simp only [results, Try.results24]; go_simp) rfl ?_
        refine ⟨_, _, _, rfl, ?_, ((HBW.out.trans (hb1.mono HBW.out.size)).alloc (Nat.le_trans HBW.out.size hb1.size) _)⟩
        rw [HR.out, lex_bad s k hlt HST.out HTO.out]
        exact ⟨rfl, rfl, rfl⟩
      | some t =>
        have ht := lex_tok s k hlt HST.out HTO.out
        have htl := tokL_len HTO.out
        have ht1 := ht.1
        have ht2 := ht.2.1
        have HL := Lib.hid ht.2.2
        have e0 : ((t.w : Int) == 0) = false := by simp; omega
        have HZ := Lib.hid (show (strB t.s).size ≤ 1000000 by rw [strB_size]; omega)
        clear ht htl
        go_wp2_with (first
          | (go_at_call 52; refine (t_token x _ HX.out.1 HX.out.2).mono ?_; rw [HT.out]; rintro e w1 ⟨rfl, hb1⟩; unfold twOf twV tokV; have hq1 := Lib.hid hb1; clear hb1)
          | (go_at_call 53; refine (s_clone _ _ HZ.out).mono ?_; rintro e w2 ⟨rfl, hb2⟩; have hq2 := Lib.hid hb2; have bx2 := (Box.new w1 93 [.int .i64 (t.k : Int), .int .i64 (k : Int), .string (strB t.s), .int .i64 (t.n : Int)]).below hb2; clear hb2; have hw2 := bx2.lt; obtain ⟨_, _, _, _, _, _, _, _⟩ := bx2.fourb)
          | (at_builtin; refine wpList_append_lies _ rfl _ _ 70 rfl w.heap.size 93 i0 (.agg #[.int .i64 0, .int .i64 0, .string ⟨#[]⟩, .int .i64 0]) 4 40 Try.underlying70 hi0 hz0 hz1 hz2 rfl (by decide) _ ts.length (tkCs ts) rfl (own_step HO.out hq1.out hq2.out _) ⟨w2.heap.size, 0, none⟩ 1 1 (tkC (t.at k)) rfl rfl (news_of (cs := tkC (t.at k)) (by simp [World.setCell])) (tkC_one _) (by decide) ?c3 ?c4 (below_step HBW.out hq1.out hq2.out _).size _ rfl ?_))
        case c3 => unfold maxLen; omega
        case c4 => omega
        intro g cap w9 hown9 hgrow hat hlt9
        have hB9 : Below w.heap.size w w9 := (below_step HBW.out hq1.out hq2.out _).grown hgrow (below_step HBW.out hq1.out hq2.out _).size (fun q hq => (HO.out.lt q hq).1)
        rw [← tkCs_snoc] at hown9
        have HL9 : Hid (lexL s.data.toList 0 = (lexL (D s (k + t.w)) (k + t.w)).pre (ts ++ [t.at k])) := by show _ = _; rw [HR.out, HL.out, Lx.pre_pre]
        clear hgrow hat
        go_wp2_with (go_at_call 51; refine (t_skip s (k + t.w) _ hs6 ht2).mono ?_; rintro e w' ⟨k9, rfl, hk9, hk9', hl9, hst9, hw⟩; have hw := hw.symm; subst hw)
        go_roundw
        case rel => exact ⟨k9, ts ++ [t.at k], hk9', rfl, by simp; omega, by simpa using hown9, by rw [HL9.out, hl9], hst9, hB9⟩
        case measure => simp [intOf]; omega
    · go_wp2
      refine bodyPost_ret (v := .tuple #[_, .int .i64 0, .int .i64 0]) (by simp only [results, Try.results24]; go_simp; rfl) rfl ?_
      refine ⟨_, _, _, rfl, ?_, HBW.out⟩
      have hkk : k = s.size := by omega
      rw [HR.out, show lexL (D s k) k = .ok [] by unfold D; rw [List.drop_of_length_le (by simp; omega)]; rfl]
      refine ⟨?_, rfl, rfl⟩
      rw [List.append_nil]
      exact HO.out

end Go.Proofs.Ytccilgemfkdmkaa

namespace Go.Proofs.Ytccilgemfkdmkaa
open Go.RowKit
set_option linter.unusedVariables false
set_option linter.unusedSimpArgs false

theorem Try.tokWide : (match Try.prog.underlying 93 with | some (.array _ _) | some (.struct _) => true | _ => false) = true := by kernel_rfl
theorem Try.tokDeep : Try.prog.keyTypeAt 2 93 = true := by kernel_rfl
theorem Try.tokCells : Try.prog.cellsOf 93 = 4 := by kernel_rfl
theorem Try.intCells : Try.prog.cellsOf 3 = 1 := by kernel_rfl
theorem Try.strCells : Try.prog.cellsOf 9 = 1 := by kernel_rfl
theorem Try.tokType : Try.prog.keyType 93 = true := by kernel_rfl
theorem Try.tokGuard : Try.prog.eqGuardType Try.prog.depth 93 = false := by kernel_rfl
theorem Try.typesPos2 : ∃ m, Try.prog.types.size = m + 3 := ⟨Try.prog.types.size - 3, by have : 3 ≤ Try.prog.types.size := of_decide_eq_true (by kernel_rfl); omega⟩

def fits (x : Int) : Prop := -9223372036854775808 ≤ x ∧ x ≤ 9223372036854775807
theorem fits_wf {x : Int} (h : fits x) : (Lit.int .i64 x).wf = true := WalkArith.wf_i64 (by unfold fits at h; omega)

theorem tok_key {k p n : Int} (s : ByteArray) (h1 : fits k) (h2 : fits p) (h3 : fits n) (hs : s.size ≤ 1000000) :
    ∃ l, keyOf Try.prog 93 (.agg #[.int .i64 k, .int .i64 p, .string s, .int .i64 n]) = some l := by
  obtain ⟨m, hm⟩ := Try.typesPos2
  have hs2 : s.size ≤ maxLen := by unfold maxLen; omega
  unfold keyOf
  simp only [Try.underlying93, Try.tokType]
  rw [hm]
  simp [Program.keyLits, Value.formed, Try.underlying93, Try.tokCells, Try.intCells, Try.strCells, Try.underlying3, Try.underlying9, Value.cells, fits_wf h1, fits_wf h2, fits_wf h3, hs2]
theorem tok_guard_ne (x y : Operand) (a b : Array Value) (w : World) : (eqGuard .neq 93 x y (.agg a) (.agg b)).run Try.prog w = .ok () w := by
  simp [eqGuard, Try.tokGuard, Result.andThen]
theorem tok_guard_eq (x y : Operand) (a b : Array Value) (w : World) : (eqGuard .eql 93 x y (.agg a) (.agg b)).run Try.prog w = .ok () w := by
  simp [eqGuard, Try.tokGuard, Result.andThen]
set_option maxRecDepth 100000 in
theorem tok_ne {k p n : Int} (s : ByteArray) (w : World) (h1 : fits k) (h2 : fits p) (h3 : fits n) (hs : s.size ≤ 1000000) :
    (binOp .neq 93 (.agg #[.int .i64 k, .int .i64 p, .string s, .int .i64 n]) (.agg #[.int .i64 k, .int .i64 p, .string s, .int .i64 n])).run Try.prog w = .ok (.bool false) w := by
  obtain ⟨l, hl⟩ := tok_key s h1 h2 h3 hs
  obtain ⟨b, hb, hiff⟩ := run_equal_deep (P := Try.prog) w (m := 2) (by omega) Try.tokDeep Try.tokWide hl hl
  obtain rfl := hiff.2 rfl
  simp [binOp, hb, Result.andThen]
set_option maxRecDepth 100000 in
theorem tok_eq {k p n : Int} (s : ByteArray) (w : World) (h1 : fits k) (h2 : fits p) (h3 : fits n) (hs : s.size ≤ 1000000) :
    (binOp .eql 93 (.agg #[.int .i64 k, .int .i64 p, .string s, .int .i64 n]) (.agg #[.int .i64 k, .int .i64 p, .string s, .int .i64 n])).run Try.prog w = .ok (.bool true) w := by
  obtain ⟨l, hl⟩ := tok_key s h1 h2 h3 hs
  obtain ⟨b, hb, hiff⟩ := run_equal_deep (P := Try.prog) w (m := 2) (by omega) Try.tokDeep Try.tokWide hl hl
  obtain rfl := hiff.2 rfl
  simp [binOp, hb, Result.andThen]

/-- A token that the machine holds. -/
def Tk.fit (t : Tk) : Prop := t.k ≤ 5 ∧ t.p ≤ 1000000 ∧ t.s.length ≤ 1000000 ∧ t.n ≤ 2147483647
theorem kindL_le (l : By) : kindL l ≤ 4 := by
  unfold kindL; split
  · omega
  · split
    · omega
    · split
      · omega
      · split <;> omega
theorem tokL_fit {l : By} {t : Tw} (h : tokL l = some t) : t.k ≤ 5 ∧ t.s.length ≤ t.w ∧ t.n ≤ 2147483647 := by
  refine ⟨?_, tokL_len h, ?_⟩
  all_goals
    cases l with
    | nil => cases h
    | cons b r =>
      rw [tokL_cons] at h
      split at h
      · split at h
        · cases h
        · cases h; first | exact Nat.le_succ_of_le (kindL_le _) | exact Nat.zero_le _
      · split at h
        · split at h
          · cases h
          · rename_i hq; cases h; first | (show numL _ ≤ _; omega) | (show 3 ≤ 5; omega)
        · split at h
          · cases h; first | exact Nat.le_refl _ | exact Nat.zero_le _
          · split at h
            · cases h; first | exact Nat.le_refl _ | exact Nat.zero_le _
            · cases h
theorem pre_ok {ts l : List Tk} {x : Lx} (h : x.pre ts = .ok l) : ∃ l', x = .ok l' ∧ l = ts ++ l' := by
  rcases Lx.cases x with ⟨i, rfl⟩ | ⟨l', rfl⟩
  · exact (Lx.bad_ok h).elim
  · exact ⟨l', rfl, (Lx.ok_inj h).symm⟩
theorem lexF_fit : ∀ (n : Nat) (l : By) (i : Nat) (ts : List Tk), l.length ≤ n → i + l.length ≤ 1000000 → lexF n l i = .ok ts → ∀ t ∈ ts, t.fit
  | 0, l, i, ts, _, _, h => by obtain rfl := Lx.ok_inj h; simp
  | n + 1, [], i, ts, _, _, h => by obtain rfl := Lx.ok_inj h; simp
  | n + 1, b :: r, i, ts, hn, hi, h => by
    simp only [List.length_cons] at hn hi
    unfold lexF at h
    split at h
    · exact lexF_fit n r (i + 1) ts (by omega) (by omega) h
    · split at h
      · have := rowL_le noNl r
        exact lexF_fit n _ _ ts (by rw [List.length_drop]; omega) (by rw [List.length_drop]; omega) h
      · cases ht : tokL (b :: r) with
        | none => rw [ht] at h; exact (Lx.bad_ok h).elim
        | some t =>
          rw [ht] at h
          have hp := tokL_pos ht
          simp only [List.length_cons] at hp
          obtain ⟨l', h1, rfl⟩ := pre_ok h
          obtain ⟨f1, f2, f3⟩ := tokL_fit ht
          intro x hx
          simp at hx
          rcases hx with rfl | hx
          · exact ⟨f1, by show i ≤ _; omega, by show t.s.length ≤ _; omega, f3⟩
          · exact lexF_fit n _ _ l' (by rw [List.length_drop, List.length_cons]; omega) (by rw [List.length_drop, List.length_cons]; omega) h1 x hx
theorem lexL_fit {l : By} {ts : List Tk} (hl : l.length ≤ 1000000) (h : lexL l 0 = .ok ts) : ∀ t ∈ ts, t.fit := lexF_fit _ l 0 ts (Nat.le_refl _) (by omega) h

theorem lexF_len : ∀ (n : Nat) (l : By) (i : Nat) (ts : List Tk), l.length ≤ n → lexF n l i = .ok ts → ts.length ≤ l.length
  | 0, l, i, ts, _, h => by obtain rfl := Lx.ok_inj h; simp
  | n + 1, [], i, ts, _, h => by obtain rfl := Lx.ok_inj h; simp
  | n + 1, b :: r, i, ts, hn, h => by
    simp only [List.length_cons] at hn ⊢
    unfold lexF at h
    split at h
    · have := lexF_len n r (i + 1) ts (by omega) h; omega
    · split at h
      · have := lexF_len n _ _ ts (by rw [List.length_drop]; omega) h
        rw [List.length_drop] at this; omega
      · cases ht : tokL (b :: r) with
        | none => rw [ht] at h; exact (Lx.bad_ok h).elim
        | some t =>
          rw [ht] at h
          have hp := tokL_pos ht
          simp only [List.length_cons] at hp
          obtain ⟨l', h1, rfl⟩ := pre_ok h
          have := lexF_len n _ _ l' (by rw [List.length_drop, List.length_cons]; omega) h1
          rw [List.length_drop, List.length_cons] at this
          simp; omega
theorem lexL_len {l : By} {ts : List Tk} (h : lexL l 0 = .ok ts) : ts.length ≤ l.length := lexF_len _ l 0 ts (Nat.le_refl _) h

/-! ### Tokens read in memory -/
def TR (hi : Nat) (w : World) (a : Option Addr) (n : Nat) (ts : List Tk) : Prop :=
  ts.length = n ∧ (n = 0 ∨ ∃ b off, a = some ⟨b, off, none⟩ ∧ b < hi ∧ ∀ (i : Nat) (t : Tk), ts[i]? = some t →
    w.cell? ⟨b, off + i * 4, none⟩ = some (.int .i64 (t.k : Int)) ∧ w.cell? ⟨b, off + i * 4 + 1, none⟩ = some (.int .i64 (t.p : Int)) ∧ w.cell? ⟨b, off + i * 4 + 2, none⟩ = some (.string (strB t.s)) ∧ w.cell? ⟨b, off + i * 4 + 3, none⟩ = some (.int .i64 (t.n : Int)))
theorem TR.below {hi n B : Nat} {w w' : World} {a : Option Addr} {ts : List Tk} (h : TR hi w a n ts) (hb : Below B w w') (hh : hi ≤ B) : TR hi w' a n ts := by
  obtain ⟨h1, h2 | ⟨b, off, rfl, hl, hc⟩⟩ := h
  · exact ⟨h1, .inl h2⟩
  · refine ⟨h1, .inr ⟨b, off, rfl, hl, fun i t ht => ?_⟩⟩
    obtain ⟨c0, c1, c2, c3⟩ := hc i t ht
    have hbb : b < B := by omega
    exact ⟨(hb.cell (p := ⟨b, off + i * 4, none⟩) hbb).trans c0, (hb.cell (p := ⟨b, off + i * 4 + 1, none⟩) hbb).trans c1, (hb.cell (p := ⟨b, off + i * 4 + 2, none⟩) hbb).trans c2, (hb.cell (p := ⟨b, off + i * 4 + 3, none⟩) hbb).trans c3⟩
theorem TR.mono {hi hi' n : Nat} {w : World} {a : Option Addr} {ts : List Tk} (h : TR hi w a n ts) (hh : hi ≤ hi') : TR hi' w a n ts := by
  obtain ⟨h1, h2 | ⟨b, off, rfl, hl, hc⟩⟩ := h
  · exact ⟨h1, .inl h2⟩
  · exact ⟨h1, .inr ⟨b, off, rfl, by omega, hc⟩⟩
theorem tkCs_at : ∀ (ts : List Tk) (i : Nat) (t : Tk), ts[i]? = some t → ∀ j, j < 4 → (tkCs ts)[i * 4 + j]? = (tkC t)[j]?
  | q :: r, 0, t, h, j, hj => by
    simp at h; subst h
    unfold tkCs
    rw [List.flatMap_cons, List.getElem?_append_left (by rw [tkC_length]; omega)]
    simp
  | q :: r, i + 1, t, h, j, hj => by
    have ih := tkCs_at r i t (by simpa using h) j hj
    unfold tkCs at *
    rw [List.flatMap_cons, List.getElem?_append_right (by rw [tkC_length]; omega), tkC_length, ← ih]
    congr 1; omega
theorem TR.of_owns {w : World} {base : Nat} {v : Value} {ts : List Tk} (h : w.ownsRow base 93 4 v ts.length (tkCs ts)) : ∃ a c, v = .slice a ts.length c ∧ ts.length ≤ c ∧ TR w.heap.size w a ts.length ts := by
  obtain ⟨_, ⟨rfl, h0⟩ | ⟨g, cap, cur, rfl, hb, hg, hcap, _, hsz, ht⟩⟩ := h
  · exact ⟨none, 0, by rw [h0], by omega, rfl, .inl h0⟩
  · refine ⟨_, _, rfl, hcap, rfl, .inr ⟨g, 0, rfl, (Array.getElem?_eq_some_iff.1 hg).1, fun i t hti => ?_⟩⟩
    have hc : ∀ j, j < 4 → w.cell? ⟨g, 0 + (i * 4 + j), none⟩ = (tkC t)[j]? := fun j hj => by
      have h1 := tkCs_at ts i t hti j hj
      rw [← ht, List.getElem?_take] at h1
      rw [Nat.zero_add, cell_of_row w g _ cur 93 (0, 0) hg]
      have hi : i < ts.length := (List.getElem?_eq_some_iff.1 hti).1
      rw [if_pos (by omega)] at h1
      simpa using h1
    have c0 := hc 0 (by omega)
    have c1 := hc 1 (by omega)
    have c2 := hc 2 (by omega)
    have c3 := hc 3 (by omega)
    exact ⟨by simpa [tkC] using c0, by simpa [tkC, Nat.add_assoc] using c1, by simpa [tkC, Nat.add_assoc] using c2, by simpa [tkC, Nat.add_assoc] using c3⟩
theorem TR.cell {hi n : Nat} {w : World} {a : Option Addr} {ts : List Tk} (h : TR hi w a n ts) (hn : n ≠ 0) : ∃ b off, a = some ⟨b, off, none⟩ ∧ b < hi ∧ ∀ (i : Nat) (t : Tk), ts[i]? = some t →
    w.cell? ⟨b, off + i * 4, none⟩ = some (.int .i64 (t.k : Int)) ∧ w.cell? ⟨b, off + i * 4 + 1, none⟩ = some (.int .i64 (t.p : Int)) ∧ w.cell? ⟨b, off + i * 4 + 2, none⟩ = some (.string (strB t.s)) ∧ w.cell? ⟨b, off + i * 4 + 3, none⟩ = some (.int .i64 (t.n : Int)) :=
  h.2.resolve_left hn

theorem num_any (x : Int) (w : World) : Calls Try.prog 12 #[.int .i64 x] w fun e w' => e = .returned (.int .i64 x) ∧ w' = w := by
  go_enter Try.func12, Try.ntmps12
  go_wp2
  go_ret
  exact ⟨rfl, rfl⟩

end Go.Proofs.Ytccilgemfkdmkaa
