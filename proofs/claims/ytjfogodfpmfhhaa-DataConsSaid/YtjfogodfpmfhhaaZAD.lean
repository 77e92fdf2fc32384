/- Lemmas for the walks of this seat: a slice read in memory (RowF; of integers: Row; of bools: RowB; of words: RowU), a block of known cells (Box), append to a slice of the call's own. Words on worlds: all but two blocks is as it was (Two); small words on Below; cuts of slices. No program but its types. Words on memory: lists of k-celled things in a slice (Sl), rows in a block (RowsIn); stores of whole structs; rows that a call owns. No program. All is as it was but for some blocks (Out). No program. The mathematics of lexing: what a list of bytes is as tokens. No program. Contracts of the small predicates of package lex and of the statements' own ones. Contracts of package lex: row, isWord, kind, Name, Con, and of the statements' own word, row, Name, Con. Contracts: whether a text is a word. Contracts: what kind a row is (package lex), whether it is a name or a Con (both). Contracts of package lex: nameToken, signToken, intToken, strings.HasPrefix, strings.Clone. Contracts: strings.HasPrefix, strings.Clone as this program has them; package lex's token, skip. Contracts of package lex: token, skip. Contract of package lex: skip. Contract of package lex: Lex. Two tokens that are one are told so; tokens read in memory; the statements' Same, awake. -/
import Derived.WalkKit
import Derived.WalkLawsBesides
import Derived.WalkSpells
import Derived.Outline
import Derived.Deep.QuietTactic
import Derived.BigQuiet
import Derived.BigRegion
import Derived.RegionTactic
import Derived.ChangeAlike
import Derived.Handy
import Derived.Laws.AppendOwnNone
import Derived.BigFrame
import Derived.Lib.Hide
import Derived.Deep.MidRow
import Derived.Deep.OwnRows
import Derived.Deep.AppendLies
import Derived.Test.YtjfogodfpmfhhaaProg
import Derived.Lib.Strings
import Derived.Lib.BufferWrite
import Derived.Lib.UnsafeStr
import Derived.Laws.MakeOwn
import Derived.Laws.Strings3
import Derived.Deep.CutRange
namespace Go.Proofs.Ytjfogodfpmfhhaa
open Go.RowKit

section
variable {α : Type} {f : α → Value} {d : α} {lo hi lo' hi' : Nat} {w w' : World} {a : Option Addr} {len : Nat} {xs : List α}

end

/-- Block b holds just these cells, none of them frozen. -/
def Box (w : World) (b : Nat) (t : TypeId) (cs : List Value) : Prop := w.heap[b]? = some (.cells cs.toArray t (0, 0))

section
variable {w w' : World} {b : Nat} {t : TypeId} {cs : List Value}
theorem Box.cell (h : Box w b t cs) (i : Nat) : w.cell? ⟨b, i, none⟩ = cs[i]? := by
  unfold Box at h; simp [World.cell?, h]
theorem Box.frozen (h : Box w b t cs) (i : Nat) : w.frozen? ⟨b, i, none⟩ = false := by
  unfold Box at h; simp [World.frozen?, h]
theorem Box.lt (h : Box w b t cs) : b < w.heap.size := (Array.getElem?_eq_some_iff.1 h).1
theorem Box.below (h : Box w b t cs) (hb : Below w.heap.size w w') : Box w' b t cs := (hb.block b h.lt).trans h
theorem Box.new (w : World) (t : TypeId) (cs : List Value) : Box (w.alloc (.cells cs.toArray t)) w.heap.size t cs := by
  unfold Box World.alloc; simp
theorem Box.alloc (h : Box w b t cs) (o : Obj) : Box (w.alloc o) b t cs := (Below.heap_alloc w o b h.lt).trans h
theorem Box.set (h : Box w b t cs) (i : Nat) (u : Value) : Box (w.setCell ⟨b, i, none⟩ u) b t (cs.set i u) := by
  unfold Box at *
  simp [World.setCell, Array.getElem?_modify, h]
theorem Box.setOther (h : Box w b t cs) {a : Addr} (ha : b ≠ a.block) (u : Value) : Box (w.setCell a u) b t cs := (Below.heap_setCell w a u b ha).trans h
theorem Box.drew (h : Box w b t cs) : Box w.drew b t cs := h
theorem Box.grown (h : Box w b t cs) {row : Option Nat} (hg : w.grownBy w' row) (hne : some b ≠ row) : Box w' b t cs := (hg.block b h.lt hne).trans h
theorem Box.three {c0 c1 c2 : Value} (h : Box w b t [c0, c1, c2]) : w.cell? ⟨b, 0, none⟩ = some c0 ∧ w.cell? ⟨b, 1, none⟩ = some c1 ∧ w.cell? ⟨b, 2, none⟩ = some c2 ∧ w.frozen? ⟨b, 0, none⟩ = false ∧ w.frozen? ⟨b, 1, none⟩ = false ∧ w.frozen? ⟨b, 2, none⟩ = false :=
  ⟨h.cell 0, h.cell 1, h.cell 2, h.frozen 0, h.frozen 1, h.frozen 2⟩
end

end Go.Proofs.Ytjfogodfpmfhhaa

namespace Go.Proofs.Ytjfogodfpmfhhaa
open Go.RowKit
open Go.ChangeMaps (setBlock)
set_option linter.unusedVariables false
set_option linter.unusedSimpArgs false

/-- All but two blocks is as it was. -/
structure Two (b1 b2 : Nat) (w w' : World) : Prop where
  os : w'.os = w.os
  tape : w'.tape = w.tape
  output : w'.output = w.output
  size : w.heap.size ≤ w'.heap.size
  block : ∀ k, k < w.heap.size → k ≠ b1 → k ≠ b2 → w'.heap[k]? = w.heap[k]?

section
variable {b1 b2 : Nat} {w w' w'' : World}
theorem Two.refl (b1 b2 : Nat) (w : World) : Two b1 b2 w w := ⟨rfl, rfl, rfl, Nat.le_refl _, fun _ _ _ _ => rfl⟩
theorem Two.setCell (h : Two b1 b2 w w') {p : Addr} (hp : p.block = b1 ∨ p.block = b2) (u : Value) : Two b1 b2 w (w'.setCell p u) :=
  ⟨h.os, h.tape, h.output, by simpa using h.size, fun i hi h1 h2 => (Below.heap_setCell _ _ _ _ (by rcases hp with e | e <;> rw [e] <;> assumption)).trans (h.block i hi h1 h2)⟩
theorem Two.below (h : Two b1 b2 w w') {B : Nat} (hb : B ≤ w.heap.size) (h1 : B ≤ b1) (h2 : B ≤ b2) : Below B w w' :=
  ⟨h.os, h.tape, h.output, h.size, fun k hk => h.block k (by omega) (by omega) (by omega)⟩
end

end Go.Proofs.Ytjfogodfpmfhhaa

namespace Go.Proofs.Ytjfogodfpmfhhaa
open Go.RowKit
set_option linter.unusedVariables false
set_option linter.unusedSimpArgs false

/-- Rows in a block, none of their cells frozen. -/
def RowsIn (k : Nat) (w : World) (b : Nat) (xs : List (List Value)) : Prop := b < w.heap.size ∧ ∀ (i : Nat) (x : List Value), xs[i]? = some x → ∀ (j : Nat) (v : Value), x[j]? = some v → w.cell? ⟨b, i * k + j, none⟩ = some v ∧ w.frozen? ⟨b, i * k + j, none⟩ = false
theorem RowsIn.agree {k b : Nat} {w w' : World} {xs : List (List Value)} (h : RowsIn k w b xs) (hb : w'.heap[b]? = w.heap[b]?) (hs : w.heap.size ≤ w'.heap.size) : RowsIn k w' b xs :=
  ⟨Nat.lt_of_lt_of_le h.1 hs, fun i x hx j v hv => ⟨(World.cell?_of_block hb).trans (h.2 i x hx j v hv).1, (World.frozen?_of_block hb).trans (h.2 i x hx j v hv).2⟩⟩
theorem RowsIn.made {k : Nat} (w : World) (z : List Value) (n : Nat) (t : TypeId) (hz : z.length = k) : RowsIn k (w.alloc (.cells (madeCells z.toArray (n * k)) t)) w.heap.size (List.replicate n z) := by
  have hb : Box (w.alloc (.cells (madeCells z.toArray (n * k)) t)) w.heap.size t (madeCells z.toArray (n * k)).toList := by
    have := Box.new w t (madeCells z.toArray (n * k)).toList
    simpa using this
  refine ⟨by simp, fun i x hx j v hv => ⟨?_, hb.frozen _⟩⟩
  rw [hb.cell]
  rw [List.getElem?_replicate] at hx
  split at hx
  · next hi =>
    cases hx
    have hj : j < k := by have := (List.getElem?_eq_some_iff.1 hv).1; omega
    have h1 : i * k + j < n * k := by
      have : (i + 1) * k ≤ n * k := Nat.mul_le_mul_right k (by omega)
      rw [Nat.add_mul] at this; omega
    have h2 : (i * k + j) % k = j := by rw [Nat.mul_comm, Nat.mul_add_mod]; exact Nat.mod_eq_of_lt hj
    obtain ⟨_, h3⟩ := List.getElem?_eq_some_iff.1 hv
    simp [madeCells, h1, hz, h2]
    simp [List.getElem?_eq_getElem (show j < z.length by omega), h3]
  · cases hx
theorem two_setCells {g b : Nat} {w : World} : ∀ (vs : List Value) {o : Nat} {w' : World}, Two g b w w' → Two g b w (w'.setCells g o vs)
  | [], _, _, h => h
  | v :: r, o, w', h => by
    rw [World.setCells]
    exact two_setCells r (h.setCell (p := ⟨g, o, none⟩) (.inl rfl) v)
/-- Rows in a block, one of them another one. -/
theorem RowsIn.put_row {k b i : Nat} {w : World} {xs : List (List Value)} {x vs : List Value} (h : RowsIn k w b xs) (hx : xs[i]? = some x) (hk : ∀ y ∈ xs, y.length = k) (hv : vs.length = k) : RowsIn k (w.setCells b (i * k) vs) b (xs.set i vs) ∧ w.there b (i * k) k := by
  have hi : i < xs.length := (List.getElem?_eq_some_iff.1 hx).1
  have hxk : x.length = k := hk x (List.mem_of_getElem? hx)
  have hth : w.there b (i * k) k := fun j hj => by
    obtain ⟨h1, h2⟩ := h.2 i x hx j (x[j]'(by omega)) (List.getElem?_eq_getElem (by omega))
    rw [h1, h2]; exact ⟨rfl, rfl⟩
  refine ⟨⟨?_, fun i' x' hx' j' v' hv' => ?_⟩, hth⟩
  · have := (two_setCells (g := b) (b := b) vs (o := i * k) (Two.refl b b w)).size
    have := h.1
    omega
  rw [World.frozen?_setCells]
  rw [List.getElem?_set] at hx'
  by_cases e : i = i'
  · subst e
    rw [if_pos rfl, if_pos hi] at hx'
    cases hx'
    have hj := (List.getElem?_eq_some_iff.1 hv').1
    obtain ⟨h1, h2⟩ := h.2 i x hx j' (x[j']'(by omega)) (List.getElem?_eq_getElem (by omega))
    refine ⟨?_, h2⟩
    rw [World.cell?_setCells_in b vs (i * k) w (fun q hq => (hth q (by omega)).1) j' hj, ← hv', List.getElem?_eq_getElem hj]
  · rw [if_neg e] at hx'
    obtain ⟨h1, h2⟩ := h.2 i' x' hx' j' v' hv'
    have hx'k : x'.length = k := hk x' (List.mem_of_getElem? hx')
    have hj' := (List.getElem?_eq_some_iff.1 hv').1
    refine ⟨?_, h2⟩
    rw [World.cell?_setCells_out b vs (i * k) w ⟨b, i' * k + j', none⟩ (fun _ _ => ?_)]
    · exact h1
    · show i' * k + j' < i * k ∨ i * k + vs.length ≤ i' * k + j'
      rw [hx'k] at hj'
      rw [hv]
      rcases Nat.lt_or_ge i' i with q | q
      · left
        have : (i' + 1) * k ≤ i * k := Nat.mul_le_mul_right k q
        rw [Nat.add_mul] at this
        omega
      · right
        have : (i + 1) * k ≤ i' * k := Nat.mul_le_mul_right k (by omega)
        rw [Nat.add_mul] at this
        omega
theorem wpList_store_wrow {P : Program} {ops : Array Oper} {rest : List Oper} {op : Oper} {a : Act} {w : World} {Q : Exit → Act → World → Prop} (hgd : op.guard = none) (ty : TypeId) (x y : Operand) (ho : op.op = .store ty x y)
    (k g i : Nat) (xs : List (List Value)) (x0 vs : List Value) (hx : a.eval x = .pointer (some ⟨g, i * k, none⟩)) (hy : a.eval y = .agg vs.toArray) (hg : RowsIn k w g xs) (hx0 : xs[i]? = some x0) (hk : ∀ y ∈ xs, y.length = k) (hv : vs.length = k) (hi : (P.info? ty).map (·.size) = some vs.length)
    (h1 : ∀ v ∈ vs, v.oneCell' = true)
    (h : ∀ w', RowsIn k w' g (xs.set i vs) → Two g g w w' → wpList P ops Q rest (a.put op.dst undef) w') : wpList P ops Q (op :: rest) a w := by
  obtain ⟨h2, h3⟩ := hg.put_row (vs := vs) hx0 hk hv
  refine wpList_store_mid hgd ty x y ho g (i * k) vs.toArray hx hy (by simpa [hv] using h3) (by simpa using hi) (all_oneCell_toArray h1) ?_
  exact h _ (by simpa using h2) (by simpa using two_setCells vs (Two.refl g g w))
end Go.Proofs.Ytjfogodfpmfhhaa

namespace Go.Proofs.Ytjfogodfpmfhhaa
open Go.RowKit
set_option linter.unusedVariables false
set_option linter.unusedSimpArgs false

/-- All but these blocks is as it was. -/
structure Out (S : Nat → Prop) (w w' : World) : Prop where
  os : w'.os = w.os
  tape : w'.tape = w.tape
  output : w'.output = w.output
  size : w.heap.size ≤ w'.heap.size
  block : ∀ k, k < w.heap.size → ¬ S k → w'.heap[k]? = w.heap[k]?
section
variable {S S' : Nat → Prop} {w w' w'' : World}
theorem Out.refl (S : Nat → Prop) (w : World) : Out S w w := ⟨rfl, rfl, rfl, Nat.le_refl _, fun _ _ _ => rfl⟩
theorem Out.trans (h : Out S w w') (k : Out S w' w'') : Out S w w'' := ⟨k.os.trans h.os, k.tape.trans h.tape, k.output.trans h.output, Nat.le_trans h.size k.size, fun i hi hn => (k.block i (Nat.lt_of_lt_of_le hi h.size) hn).trans (h.block i hi hn)⟩
theorem Out.mono (h : Out S w w') (hs : ∀ k, k < w.heap.size → S k → S' k) : Out S' w w' := ⟨h.os, h.tape, h.output, h.size, fun k hk hn => h.block k hk fun q => hn (hs k hk q)⟩
theorem Out.drew (h : Out S w w') : Out S w w'.drew := ⟨h.os, h.tape, h.output, h.size, h.block⟩
theorem Out.setCell (h : Out S w w') {p : Addr} (hp : S p.block ∨ w.heap.size ≤ p.block) (u : Value) : Out S w (w'.setCell p u) := by
  refine ⟨h.os, h.tape, h.output, by simpa using h.size, fun i hi hn => (Below.heap_setCell _ _ _ _ ?_).trans (h.block i hi hn)⟩
  rintro rfl
  rcases hp with hp | hp
  · exact hn hp
  · omega
theorem Out.grown (h : Out S w w') {row : Option Nat} (hg : w'.grownBy w'' row) (hr : ∀ q, row = some q → S q ∨ w.heap.size ≤ q) : Out S w w'' := by
  obtain ⟨h1, h2, h3, h4, h5⟩ := hg
  refine ⟨h1.trans h.os, h2.trans h.tape, h3.trans h.output, Nat.le_trans h.size h4, fun i hi hn => (h5 i (Nat.lt_of_lt_of_le hi h.size) ?_).trans (h.block i hi hn)⟩
  intro e
  rcases hr i e.symm with hp | hp
  · exact hn hp
  · omega
theorem Out.next (h : Out S w w') (hb : Below w'.heap.size w' w'') : Out S w w'' := ⟨hb.os.trans h.os, hb.tape.trans h.tape, hb.output.trans h.output, Nat.le_trans h.size hb.size, fun i hi hn => (hb.block i (Nat.lt_of_lt_of_le hi h.size)).trans (h.block i hi hn)⟩
theorem Out.of_below (hb : Below w.heap.size w w') : Out S w w' := (Out.refl S w).next hb
theorem Out.of_two {b1 b2 : Nat} (h : Two b1 b2 w w') (h1 : S b1) (h2 : S b2) : Out S w w' := ⟨h.os, h.tape, h.output, h.size, fun k hk hn => h.block k hk (fun e => hn (e ▸ h1)) (fun e => hn (e ▸ h2))⟩
theorem Out.below (h : Out S w w') {B : Nat} (hB : B ≤ w.heap.size) (hs : ∀ k, k < B → ¬ S k) : Below B w w' := ⟨h.os, h.tape, h.output, h.size, fun k hk => h.block k (by omega) (hs k hk)⟩
theorem Out.box (h : Out S w w') {b : Nat} {t : TypeId} {cs : List Value} (hb : Box w b t cs) (hn : ¬ S b) : Box w' b t cs := (h.block b hb.lt hn).trans hb
end
theorem ownsRow_lo {w : World} {base n size : Nat} {e : TypeId} {v : Value} {xs : List Value} (h : w.ownsRow base e size v n xs) : ∀ q, v.ownBlock = some q → base ≤ q ∧ q < w.heap.size := by
  intro q hq
  obtain ⟨_, ⟨rfl, _⟩ | ⟨g, cap, cur, rfl, hb, hg, _⟩⟩ := h
  · cases hq
  · have : g = q := by simpa [Value.ownBlock] using hq
    subst this
    exact ⟨hb, (Array.getElem?_eq_some_iff.1 hg).1⟩

end Go.Proofs.Ytjfogodfpmfhhaa

namespace Go.Proofs.Ytjfogodfpmfhhaa
set_option linter.unusedVariables false
set_option linter.unusedSimpArgs false

abbrev By := List UInt8
end Go.Proofs.Ytjfogodfpmfhhaa

namespace Go.Proofs.Ytjfogodfpmfhhaa
open Go.RowKit
set_option linter.unusedVariables false
set_option linter.unusedSimpArgs false

end Go.Proofs.Ytjfogodfpmfhhaa

namespace Go.Proofs.Ytjfogodfpmfhhaa
open Go.RowKit
set_option linter.unusedVariables false
set_option linter.unusedSimpArgs false

end Go.Proofs.Ytjfogodfpmfhhaa

namespace Go.Proofs.Ytjfogodfpmfhhaa
open Go.RowKit
set_option linter.unusedVariables false
set_option linter.unusedSimpArgs false

end Go.Proofs.Ytjfogodfpmfhhaa

namespace Go.Proofs.Ytjfogodfpmfhhaa
open Go.RowKit
set_option linter.unusedVariables false
set_option linter.unusedSimpArgs false

end Go.Proofs.Ytjfogodfpmfhhaa

namespace Go.Proofs.Ytjfogodfpmfhhaa
open Go.RowKit
set_option linter.unusedVariables false
set_option linter.unusedSimpArgs false

end Go.Proofs.Ytjfogodfpmfhhaa

namespace Go.Proofs.Ytjfogodfpmfhhaa
open Go.RowKit
set_option linter.unusedVariables false
set_option linter.unusedSimpArgs false

theorem Try.u8Info : (Try.prog.info? 5).map (fun i => (i.zero, i.size, i.bytes)) = some (some (.int .u8 0), 1, 1) := by kernel_rfl
set_option maxHeartbeats 4000000 in
set_option maxRecDepth 100000 in
theorem s_clone (s : ByteArray) (w : World) (hlim : s.size ≤ 1000000) :
    Calls Try.prog 73 #[.string s] w fun e w' => e = .returned (.string s) ∧ Below w.heap.size w w' := by
  by_cases h0 : s.size = 0
  · have hs : s = ⟨#[]⟩ := by
      apply ByteArray.ext
      exact Array.eq_empty_of_size_eq_zero h0
    subst hs
    go_enter Try.func73, Try.ntmps73
    go_wp2
    go_ret
    exact ⟨rfl, Below.refl _ _⟩
  · obtain ⟨i0, hi, hz0, hz1, hz2⟩ := info_parts Try.u8Info
    have hinfo : (Try.prog.info? 5).map (·.size) = some 1 := by rw [hi]; simp [hz1]
    have hco : Try.prog.cellsOf 5 = 1 := by simp [Program.cellsOf, hi, hz1]
    obtain ⟨M, hM⟩ : ∃ M, M = madeCells (Value.int .u8 0).cells (((s.size : Nat) : Int).toNat * i0.size) := ⟨_, rfl⟩
    have hMs : M.size = s.size := by rw [hM, size_madeCells, hz1]; simp
    have hmk : ∀ W : World, (Instr.makeSlice 22 (.int .i64 (s.size : Int)) (.int .i64 (s.size : Int))).run Try.prog W = .ok (.slice (some ⟨W.heap.size, 0, none⟩) s.size s.size) (W.alloc (.cells M 5)) := fun W => by
      have h := run_make (P := Try.prog) W 22 5 i0 (.int .u8 0) Try.underlying22 hi hz0 .i64 .i64 (s.size : Int) (s.size : Int) (by omega) (by omega) (by rw [hz2]; omega) (by omega)
      rw [← hM] at h
      simpa using h
    clear hM
    have hcp := Lib.run_copy_row_string (P := Try.prog) (w.alloc (.cells M 5)) 22 9 3 5 w.heap.size 0 s.size s.size s M 5 Try.underlying22 hinfo (heap_alloc_new w _) (Nat.le_refl _) (by omega)
    obtain ⟨Y, hY⟩ : ∃ Y, Y = (M.toList.take 0 ++ Lib.byteCells s.data.toList ++ M.toList.drop (0 + s.size)).toArray := ⟨_, rfl⟩
    rw [← hY] at hcp
    have hYl : Y.toList = Lib.byteCells s.data.toList := by
      rw [hY, List.toList_toArray, List.take_zero, List.nil_append, List.drop_of_length_le (by rw [Array.length_toList]; omega), List.append_nil]
    have hYs : Y.size = s.size := by rw [← Array.length_toList, hYl, Lib.byteCells_length, ← Lib.size_eq]
    have hgY : ((w.alloc (.cells M 5)).setRow w.heap.size Y).heap[w.heap.size]? = some (.cells Y 5 (0, 0)) := setRow_heap _ _ M _ 5 (0, 0) (heap_alloc_new w _)
    have hne : s.data.toList ≠ [] := fun e => h0 (by rw [Lib.size_eq, e]; rfl)
    have hUS := Lib.run_unsafeString_row (P := Try.prog) ((w.alloc (.cells M 5)).setRow w.heap.size Y) 184 3 9 5 Try.underlying184 hco w.heap.size Y.size (by unfold World.shape?; rw [hgY]) s.data.toList hne (by rw [← Lib.size_eq]; omega) (by rw [← Lib.size_eq]; omega)
      (fun j x hx => Lib.cells_of_row hgY Y.size j _ (by rw [List.take_of_length_le (by rw [Array.length_toList]; exact Nat.le_refl _), hYl]; simp [Lib.byteCells, hx]))
    rw [← Lib.size_eq] at hUS
    clear hY
    go_enter Try.func73, Try.ntmps73
    go_wp2
    go_ret
    have hb1 : Below w.heap.size w (w.alloc (.cells M 5)) := (Below.refl _ w).alloc (Nat.le_refl _) _
    have hb2 : Below w.heap.size (w.alloc (.cells M 5)) ((w.alloc (.cells M 5)).setRow w.heap.size Y) := ⟨rfl, rfl, rfl, by simp, fun k hk => setRow_other _ _ _ _ (by omega)⟩
    exact ⟨rfl, Lib.below_freeze (hb1.trans hb2) (p := ⟨w.heap.size, 0, none⟩) (Nat.le_refl _) _⟩

end Go.Proofs.Ytjfogodfpmfhhaa

namespace Go.Proofs.Ytjfogodfpmfhhaa
open Go.RowKit
set_option linter.unusedVariables false
set_option linter.unusedSimpArgs false

def strB (l : By) : ByteArray := ⟨l.toArray⟩
theorem strB_size (l : By) : (strB l).size = l.length := by simp [strB, ByteArray.size]
section
variable {w w' : World} {b : Nat} {t : TypeId} {c0 c1 c2 c3 : Value}
end
end Go.Proofs.Ytjfogodfpmfhhaa

namespace Go.Proofs.Ytjfogodfpmfhhaa
open Go.RowKit
set_option linter.unusedVariables false
set_option linter.unusedSimpArgs false

abbrev D (s : ByteArray) (k : Nat) : By := s.data.toList.drop k
end Go.Proofs.Ytjfogodfpmfhhaa

namespace Go.Proofs.Ytjfogodfpmfhhaa
open Go.RowKit
set_option linter.unusedVariables false
set_option linter.unusedSimpArgs false

end Go.Proofs.Ytjfogodfpmfhhaa

namespace Go.Proofs.Ytjfogodfpmfhhaa
open Go.RowKit
set_option linter.unusedVariables false
set_option linter.unusedSimpArgs false

theorem Try.intCells : Try.prog.cellsOf 3 = 1 := by kernel_rfl
theorem Try.strCells : Try.prog.cellsOf 9 = 1 := by kernel_rfl
theorem Try.typesPos2 : ∃ m, Try.prog.types.size = m + 3 := ⟨Try.prog.types.size - 3, by have : 3 ≤ Try.prog.types.size := of_decide_eq_true (by kernel_rfl); omega⟩

def fits (x : Int) : Prop := -9223372036854775808 ≤ x ∧ x ≤ 9223372036854775807
theorem fits_wf {x : Int} (h : fits x) : (Lit.int .i64 x).wf = true := WalkArith.wf_i64 (by unfold fits at h; omega)

theorem num_any (x : Int) (w : World) : Calls Try.prog 17 #[.int .i64 x] w fun e w' => e = .returned (.int .i64 x) ∧ w' = w := by
  go_enter Try.func17, Try.ntmps17
  go_wp2
  go_ret
  exact ⟨rfl, rfl⟩

end Go.Proofs.Ytjfogodfpmfhhaa
