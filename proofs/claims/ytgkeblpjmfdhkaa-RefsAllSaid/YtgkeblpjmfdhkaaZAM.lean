/- Lemmas for the walks of this seat: a slice read in memory (RowF; of integers: Row; of bools: RowB; of words: RowU), a block of known cells (Box), append to a slice of the call's own. Words on worlds: all but two blocks is as it was (Two); small words on Below; cuts of slices. No program but its types. Words on memory: lists of k-celled things in a slice (Sl), rows in a block (RowsIn); stores of whole structs; rows that a call owns. No program. All is as it was but for some blocks (Out). No program. The mathematics of lexing: what a list of bytes is as tokens. No program. Contracts of the small predicates of package lex and of the statements' own ones. Contracts of package lex: row, isWord, kind, Name, Con, and of the statements' own word, row, Name, Con. Contracts: whether a text is a word. Contracts: what kind a row is (package lex), whether it is a name or a Con (both). Contracts of package lex: nameToken, signToken, intToken, strings.HasPrefix, strings.Clone. Contracts: strings.HasPrefix, strings.Clone as this program has them; package lex's token, skip. Contracts of package lex: token, skip. Contract of package lex: skip. Contract of package lex: Lex. Two tokens that are one are told so; tokens read in memory; the statements' Same, awake. -/
import Derived.WalkKit
import Derived.WalkLawsBesides
import Derived.WalkSpells
import Derived.Outline
import Derived.Deep.QuietTactic
import Derived.BigQuiet
import Derived.BigRegion
import Derived.RegionTactic
import Derived.ChangeAlike
import Derived.Handy
import Derived.Laws.AppendOwnNone
import Derived.BigFrame
import Derived.Lib.Hide
import Derived.Deep.MidRow
import Derived.Deep.OwnRows
import Derived.Deep.AppendLies
import Derived.Test.YtgkeblpjmfdhkaaProg
import Derived.Lib.Strings
import Derived.Lib.BufferWrite
import Derived.Lib.UnsafeStr
import Derived.Laws.MakeOwn
import Derived.Laws.Strings3
import Derived.Deep.CutRange
namespace Go.Proofs.Ytgkeblpjmfdhkaa
open Go.RowKit

/-- A slice's value reads as these elements, each a cell; its cells lie in a block from 'lo' on, ahead of 'hi'. -/
def RowF {α : Type} (f : α → Value) (d : α) (lo hi : Nat) (w : World) (a : Option Addr) (len : Nat) (xs : List α) : Prop :=
  xs.length = len ∧ (len = 0 ∨ ∃ b off, a = some ⟨b, off, none⟩ ∧ lo ≤ b ∧ b < hi ∧ ∀ i, i < len → w.cell? ⟨b, off + i, none⟩ = some (f (xs.getD i d)))

abbrev Row := RowF (Value.int .i64) (0 : Int)
theorem take_succ_eq {xs ys : List Int} {k : Nat} (hx : k < xs.length) (hy : k < ys.length) (h : xs.take k = ys.take k) (he : xs.getD k 0 = ys.getD k 0) : xs.take (k + 1) = ys.take (k + 1) := by
  have e : ∀ {zs : List Int}, k < zs.length → zs.take (k + 1) = zs.take k ++ [zs.getD k 0] := by
    intro zs hk
    rw [List.take_add_one, List.getElem?_eq_getElem hk]; simp [List.getD, hk]
  rw [e hx, e hy, h, he]

section
variable {α : Type} {f : α → Value} {d : α} {lo hi lo' hi' : Nat} {w w' : World} {a : Option Addr} {len : Nat} {xs : List α}

end

theorem ownsRow_below {w w' : World} {base : Nat} {e : TypeId} {size : Nat} {v : Value} {n : Nat} {xs : List Value} (h : w.ownsRow base e size v n xs) (hb : Below w.heap.size w w') : w'.ownsRow base e size v n xs :=
  h.kept (row := none) ⟨hb.os, hb.tape, hb.output, hb.size, fun k hk _ => hb.block k hk⟩ (by cases v.ownBlock <;> simp)

/-- Block b holds just these cells, none of them frozen. -/
def Box (w : World) (b : Nat) (t : TypeId) (cs : List Value) : Prop := w.heap[b]? = some (.cells cs.toArray t (0, 0))

section
variable {w w' : World} {b : Nat} {t : TypeId} {cs : List Value}
theorem Box.cell (h : Box w b t cs) (i : Nat) : w.cell? ⟨b, i, none⟩ = cs[i]? := by
  unfold Box at h; simp [World.cell?, h]
theorem Box.frozen (h : Box w b t cs) (i : Nat) : w.frozen? ⟨b, i, none⟩ = false := by
  unfold Box at h; simp [World.frozen?, h]
theorem Box.lt (h : Box w b t cs) : b < w.heap.size := (Array.getElem?_eq_some_iff.1 h).1
theorem Box.below (h : Box w b t cs) (hb : Below w.heap.size w w') : Box w' b t cs := (hb.block b h.lt).trans h
theorem Box.new (w : World) (t : TypeId) (cs : List Value) : Box (w.alloc (.cells cs.toArray t)) w.heap.size t cs := by
  unfold Box World.alloc; simp
theorem Box.alloc (h : Box w b t cs) (o : Obj) : Box (w.alloc o) b t cs := (Below.heap_alloc w o b h.lt).trans h
theorem Box.set (h : Box w b t cs) (i : Nat) (u : Value) : Box (w.setCell ⟨b, i, none⟩ u) b t (cs.set i u) := by
  unfold Box at *
  simp [World.setCell, Array.getElem?_modify, h]
theorem Box.setOther (h : Box w b t cs) {a : Addr} (ha : b ≠ a.block) (u : Value) : Box (w.setCell a u) b t cs := (Below.heap_setCell w a u b ha).trans h
theorem Box.drew (h : Box w b t cs) : Box w.drew b t cs := h
theorem Box.grown (h : Box w b t cs) {row : Option Nat} (hg : w.grownBy w' row) (hne : some b ≠ row) : Box w' b t cs := (hg.block b h.lt hne).trans h
theorem Box.one {c0 : Value} (h : Box w b t [c0]) : w.cell? ⟨b, 0, none⟩ = some c0 ∧ w.frozen? ⟨b, 0, none⟩ = false := ⟨h.cell 0, h.frozen 0⟩
theorem Box.two {c0 c1 : Value} (h : Box w b t [c0, c1]) : w.cell? ⟨b, 0, none⟩ = some c0 ∧ w.cell? ⟨b, 1, none⟩ = some c1 ∧ w.frozen? ⟨b, 0, none⟩ = false ∧ w.frozen? ⟨b, 1, none⟩ = false := ⟨h.cell 0, h.cell 1, h.frozen 0, h.frozen 1⟩
theorem Box.three {c0 c1 c2 : Value} (h : Box w b t [c0, c1, c2]) : w.cell? ⟨b, 0, none⟩ = some c0 ∧ w.cell? ⟨b, 1, none⟩ = some c1 ∧ w.cell? ⟨b, 2, none⟩ = some c2 ∧ w.frozen? ⟨b, 0, none⟩ = false ∧ w.frozen? ⟨b, 1, none⟩ = false ∧ w.frozen? ⟨b, 2, none⟩ = false :=
  ⟨h.cell 0, h.cell 1, h.cell 2, h.frozen 0, h.frozen 1, h.frozen 2⟩
end

/-- 'append' to a slice of the call's own, whatever is appended (nil, too), guarded or not. -/
theorem wpList_append_any {P : Program} {w : World} {ops : Array Oper} {rest : List Oper} {o : Oper} {a : Act} {Q : Exit → Act → World → Prop} (hw : Region.wanted o (yielded ops a.tmps) = true) (s x : Operand) (t : TypeId)
    (ho : o.op = .call { callee := .builtin .append, args := #[s, x], argTypes := #[t, t] })
    (base : Nat) (e : TypeId) (i : TypeInfo) (z : Value) (size bytes : Nat) (ht : P.underlying t = some (.slice e)) (hi : P.info? e = some i) (hz : i.zero = some z)
    (hsize : i.size = size) (hby : i.bytes = bytes) (hzs : z.cells.size = size) (hsz : 0 < size)
    (v : Value) (n : Nat) (xs : List Value) (hs : a.eval s = v) (hown : w.ownsRow base e size v n xs)
    (ao : Option Addr) (m c : Nat) (news : List Value) (hx : a.eval x = .slice ao m c) (hnil : ao = none → m = 0 ∧ c = 0) (hl : news.length = m * size)
    (hnews : ∀ ad, ao = some ad → ∀ j u, news[j]? = some u → w.cell? (ad.add j) = some u) (h1 : ∀ u ∈ news, u.oneCell' = true)
    (h63 : n + m ≤ maxLen) (hbytes : (n + m) * bytes ≤ 140737488355328) (hbase : base ≤ w.heap.size)
    (h : ∀ v' w', w'.ownsRow base e size v' (n + m) (xs ++ news) → w.grownBy w' v.ownBlock → wpList P ops Q rest (a.put o.dst v') w') : wpList P ops Q (o :: rest) a w := by
  refine BigFrame.wpList_want hw fun K hK => ?_
  cases ao with
  | some ad => exact wp_append_own (w := w) s x t ho base e i z size bytes ht hi hz hsize hby hzs hsz v n xs hs hown ad m c news hx hl (hnews ad rfl) h1 h63 hbytes hbase (fun v' w' h2 h3 _ => hK _ _ (h v' w' h2 h3))
  | none =>
    obtain ⟨rfl, rfl⟩ := hnil rfl
    obtain rfl : news = [] := List.eq_nil_of_length_eq_zero (by simpa using hl)
    have hrun := run_append_owned_none (P := P) (w := w) base t o.type e i size ht hi v n xs hown
    unfold Oper.wp
    simp [execOp, ho, resolve, invoke, builtin, hs, hx, hrun, Result.andThen]
    exact hK _ _ (h v w (by simpa using hown) (World.grownBy.refl _ _))

end Go.Proofs.Ytgkeblpjmfdhkaa

namespace Go.Proofs.Ytgkeblpjmfdhkaa
open Go.RowKit
open Go.ChangeMaps (setBlock)
set_option linter.unusedVariables false
set_option linter.unusedSimpArgs false

theorem below_alloc {B : Nat} {w w' : World} (h : Below B w w') (hB : B ≤ w.heap.size) (o : Obj) : Below B w (w'.alloc o) := h.alloc (Nat.le_trans hB h.size) o
theorem below_next {B : Nat} {w w' w'' : World} (h : Below B w w') (k : Below w'.heap.size w' w'') (hB : B ≤ w.heap.size) : Below B w w'' := h.trans (k.mono (Nat.le_trans hB h.size))
theorem Box.drewN' {w : World} {b : Nat} {t : TypeId} {cs : List Value} (h : Box w b t cs) (n : Nat) : Box (w.drewN n) b t cs := h
/-- All but two blocks is as it was. -/
structure Two (b1 b2 : Nat) (w w' : World) : Prop where
  os : w'.os = w.os
  tape : w'.tape = w.tape
  output : w'.output = w.output
  size : w.heap.size ≤ w'.heap.size
  block : ∀ k, k < w.heap.size → k ≠ b1 → k ≠ b2 → w'.heap[k]? = w.heap[k]?

section
variable {b1 b2 : Nat} {w w' w'' : World}
end

end Go.Proofs.Ytgkeblpjmfdhkaa

namespace Go.Proofs.Ytgkeblpjmfdhkaa
open Go.RowKit
set_option linter.unusedVariables false
set_option linter.unusedSimpArgs false

/-- The store of a whole struct into a block of its own: the world behind it, by what it holds. -/
theorem wpList_store_box {P : Program} {ops : Array Oper} {rest : List Oper} {o : Oper} {a : Act} {w : World} {Q : Exit → Act → World → Prop} (hgd : o.guard = none) (ty : TypeId) (x y : Operand) (ho : o.op = .store ty x y)
    (g : Nat) (cells : List Value) (hx : a.eval x = .pointer (some ⟨g, 0, none⟩)) (hy : a.eval y = .agg cells.toArray) (t : TypeId) (old : List Value) (hg : Box w g t old) (hi : (P.info? ty).map (·.size) = some cells.length)
    (hold : old.length = cells.length) (h1 : ∀ v ∈ cells, v.oneCell' = true)
    (h : ∀ w', Box w' g t cells → Two g g w w' → wpList P ops Q rest (a.put o.dst undef) w') : wpList P ops Q (o :: rest) a w := by
  refine wpList_store_row hgd ty x y ho g cells.toArray hx hy t old.toArray hg (by simpa using hi) (by simpa using hold) (Array.all_eq_true_iff_forall_mem.2 (fun v hv => h1 v (by simpa using hv))) (h _ ?_ ?_)
  · exact setRow_heap w g _ _ t (0, 0) hg
  · refine ⟨?_, ?_, ?_, ?_, ?_⟩
    all_goals unfold World.setRow
    · rfl
    · rfl
    · rfl
    · simp
    · intro k hk h1 _
      simp [Array.getElem?_setIfInBounds, Array.getElem?_modify, Ne.symm h1]
end Go.Proofs.Ytgkeblpjmfdhkaa

namespace Go.Proofs.Ytgkeblpjmfdhkaa
open Go.RowKit
set_option linter.unusedVariables false
set_option linter.unusedSimpArgs false

/-- All but these blocks is as it was. -/
structure Out (S : Nat → Prop) (w w' : World) : Prop where
  os : w'.os = w.os
  tape : w'.tape = w.tape
  output : w'.output = w.output
  size : w.heap.size ≤ w'.heap.size
  block : ∀ k, k < w.heap.size → ¬ S k → w'.heap[k]? = w.heap[k]?
section
variable {S S' : Nat → Prop} {w w' w'' : World}
theorem Out.refl (S : Nat → Prop) (w : World) : Out S w w := ⟨rfl, rfl, rfl, Nat.le_refl _, fun _ _ _ => rfl⟩
theorem Out.trans (h : Out S w w') (k : Out S w' w'') : Out S w w'' := ⟨k.os.trans h.os, k.tape.trans h.tape, k.output.trans h.output, Nat.le_trans h.size k.size, fun i hi hn => (k.block i (Nat.lt_of_lt_of_le hi h.size) hn).trans (h.block i hi hn)⟩
theorem Out.alloc (h : Out S w w') (o : Obj) : Out S w (w'.alloc o) := ⟨h.os, h.tape, h.output, Nat.le_trans h.size (by simp), fun i hi hn => (Below.heap_alloc _ _ _ (Nat.lt_of_lt_of_le hi h.size)).trans (h.block i hi hn)⟩
theorem Out.drew (h : Out S w w') : Out S w w'.drew := ⟨h.os, h.tape, h.output, h.size, h.block⟩
theorem Out.drewN (h : Out S w w') (n : Nat) : Out S w (w'.drewN n) := ⟨h.os, h.tape, h.output, h.size, h.block⟩
theorem Out.setCell (h : Out S w w') {p : Addr} (hp : S p.block ∨ w.heap.size ≤ p.block) (u : Value) : Out S w (w'.setCell p u) := by
  refine ⟨h.os, h.tape, h.output, by simpa using h.size, fun i hi hn => (Below.heap_setCell _ _ _ _ ?_).trans (h.block i hi hn)⟩
  rintro rfl
  rcases hp with hp | hp
  · exact hn hp
  · omega
theorem Out.grown (h : Out S w w') {row : Option Nat} (hg : w'.grownBy w'' row) (hr : ∀ q, row = some q → S q ∨ w.heap.size ≤ q) : Out S w w'' := by
  obtain ⟨h1, h2, h3, h4, h5⟩ := hg
  refine ⟨h1.trans h.os, h2.trans h.tape, h3.trans h.output, Nat.le_trans h.size h4, fun i hi hn => (h5 i (Nat.lt_of_lt_of_le hi h.size) ?_).trans (h.block i hi hn)⟩
  intro e
  rcases hr i e.symm with hp | hp
  · exact hn hp
  · omega
theorem Out.next (h : Out S w w') (hb : Below w'.heap.size w' w'') : Out S w w'' := ⟨hb.os.trans h.os, hb.tape.trans h.tape, hb.output.trans h.output, Nat.le_trans h.size hb.size, fun i hi hn => (hb.block i (Nat.lt_of_lt_of_le hi h.size)).trans (h.block i hi hn)⟩
theorem Out.of_below (hb : Below w.heap.size w w') : Out S w w' := (Out.refl S w).next hb
theorem Out.below (h : Out S w w') {B : Nat} (hB : B ≤ w.heap.size) (hs : ∀ k, k < B → ¬ S k) : Below B w w' := ⟨h.os, h.tape, h.output, h.size, fun k hk => h.block k (by omega) (hs k hk)⟩
theorem Out.box (h : Out S w w') {b : Nat} {t : TypeId} {cs : List Value} (hb : Box w b t cs) (hn : ¬ S b) : Box w' b t cs := (h.block b hb.lt hn).trans hb
end
theorem ownsRow_lo {w : World} {base n size : Nat} {e : TypeId} {v : Value} {xs : List Value} (h : w.ownsRow base e size v n xs) : ∀ q, v.ownBlock = some q → base ≤ q ∧ q < w.heap.size := by
  intro q hq
  obtain ⟨_, ⟨rfl, _⟩ | ⟨g, cap, cur, rfl, hb, hg, _⟩⟩ := h
  · cases hq
  · have : g = q := by simpa [Value.ownBlock] using hq
    subst this
    exact ⟨hb, (Array.getElem?_eq_some_iff.1 hg).1⟩

end Go.Proofs.Ytgkeblpjmfdhkaa

namespace Go.Proofs.Ytgkeblpjmfdhkaa
set_option linter.unusedVariables false
set_option linter.unusedSimpArgs false

abbrev By := List UInt8
def lowN (c : Nat) : Bool := decide (97 ≤ c) && decide (c ≤ 122)
def uppN (c : Nat) : Bool := decide (65 ≤ c) && decide (c ≤ 90)
def digN (c : Nat) : Bool := decide (48 ≤ c) && decide (c ≤ 57)
def letN (c : Nat) : Bool := lowN c || uppN c
def resN (c : Nat) : Bool := lowN c || uppN c || digN c || decide (c = 95)
def blaN (c : Nat) : Bool := decide (c = 32) || decide (c = 9) || decide (c = 10)
def sigN (c : Nat) : Bool := decide (c = 92) || decide (c = 61) || decide (c = 59) || decide (c = 124) || decide (c = 40) || decide (c = 41) || decide (c = 44) || decide (c = 123) || decide (c = 125)
def noNl (c : Nat) : Bool := decide (c ≠ 10)

/-- The longest row of such bytes at the front. -/
def rowL (p : Nat → Bool) : By → By
  | [] => []
  | c :: r => if p c.toNat then c :: rowL p r else []

def wordsL : List By := [[100, 97, 116, 97], [108, 101, 116], [105, 110], [105, 102], [116, 104, 101, 110], [101, 108, 115, 101], [99, 97, 115, 101], [111, 102], [116, 114, 117, 101], [102, 97, 108, 115, 101]]
def wordB (l : By) : Bool := wordsL.contains l
/-- Is it a row of letters, digits, '_' that is not too long? -/
def rowB (l : By) : Bool := decide (l ≠ []) && decide (l.length ≤ 30) && l.all (fun c => resN c.toNat)
def kindL (l : By) : Nat :=
  if rowB l = false then 0 else if wordB l then 4 else if lowN (l.headD 0).toNat then 1 else if uppN (l.headD 0).toNat then 2 else 0
def numL (l : By) : Nat := l.foldl (fun n c => n * 10 + (c.toNat - 48)) 0

/-- A token: its kind, its text, its number, how many bytes it has. -/
structure Tw where
  k : Nat
  s : By
  n : Nat
  w : Nat
structure Tk where
  k : Nat
  p : Nat
  s : By
  n : Nat
def Tw.at (t : Tw) (i : Nat) : Tk := ⟨t.k, i, t.s, t.n⟩

def tokL : By → Option Tw
  | [] => none
  | b :: r =>
    if letN b.toNat then (if kindL (rowL resN (b :: r)) = 0 then none else some ⟨kindL (rowL resN (b :: r)), rowL resN (b :: r), 0, (rowL resN (b :: r)).length⟩)
    else if digN b.toNat then (if (1 < (rowL digN (b :: r)).length ∧ b.toNat = 48) ∨ 2147483647 < numL (rowL digN (b :: r)) then none else some ⟨3, [], numL (rowL digN (b :: r)), (rowL digN (b :: r)).length⟩)
    else if sigN b.toNat then some ⟨5, [b], 0, 1⟩
    else if b.toNat = 45 ∧ r.head? = some 62 then some ⟨5, [45, 62], 0, 2⟩
    else none

theorem tokL_cons (b : UInt8) (r : By) : tokL (b :: r) =
    if letN b.toNat then (if kindL (rowL resN (b :: r)) = 0 then none else some ⟨kindL (rowL resN (b :: r)), rowL resN (b :: r), 0, (rowL resN (b :: r)).length⟩)
    else if digN b.toNat then (if (1 < (rowL digN (b :: r)).length ∧ b.toNat = 48) ∨ 2147483647 < numL (rowL digN (b :: r)) then none else some ⟨3, [], numL (rowL digN (b :: r)), (rowL digN (b :: r)).length⟩)
    else if sigN b.toNat then some ⟨5, [b], 0, 1⟩
    else if b.toNat = 45 ∧ r.head? = some 62 then some ⟨5, [45, 62], 0, 2⟩
    else none := rfl

/-- Tokens, or where something is that is none. -/
def Lx : Type := Sum Nat (List Tk)
def Lx.bad (i : Nat) : Lx := Sum.inl i
def Lx.ok (l : List Tk) : Lx := Sum.inr l
theorem Lx.cases (x : Lx) : (∃ i, x = Lx.bad i) ∨ ∃ l, x = Lx.ok l := by
  rcases x with i | l
  · exact .inl ⟨i, rfl⟩
  · exact .inr ⟨l, rfl⟩
theorem Lx.ok_inj {a b : List Tk} (h : Lx.ok a = Lx.ok b) : a = b := Sum.inr.inj h
theorem Lx.bad_ok {i : Nat} {l : List Tk} (h : Lx.bad i = Lx.ok l) : False := by unfold Lx.bad Lx.ok at h; cases h
def Lx.pre (ts : List Tk) : Lx → Lx
  | Sum.inl i => Lx.bad i
  | Sum.inr l => Lx.ok (ts ++ l)
theorem Lx.pre_ok (ts l : List Tk) : (Lx.ok l).pre ts = Lx.ok (ts ++ l) := rfl
theorem Lx.pre_nil (x : Lx) : x.pre [] = x := by
  rcases Lx.cases x with ⟨i, rfl⟩ | ⟨l, rfl⟩ <;> rfl
theorem Lx.pre_pre (a b : List Tk) (x : Lx) : (x.pre b).pre a = x.pre (a ++ b) := by
  rcases Lx.cases x with ⟨i, rfl⟩ | ⟨l, rfl⟩
  · rfl
  · rw [Lx.pre_ok, Lx.pre_ok, Lx.pre_ok, List.append_assoc]

def lexF : Nat → By → Nat → Lx
  | 0, _, _ => .ok []
  | _ + 1, [], _ => .ok []
  | n + 1, b :: r, i =>
    if blaN b.toNat then lexF n r (i + 1)
    else if b.toNat = 45 ∧ r.head? = some 45 then lexF n (r.drop (rowL noNl r).length) (i + 1 + (rowL noNl r).length)
    else match tokL (b :: r) with
      | none => .bad i
      | some t => (lexF n ((b :: r).drop t.w) (i + t.w)).pre [t.at i]
def lexL (l : By) (i : Nat) : Lx := lexF l.length l i

theorem rowL_le (p : Nat → Bool) : ∀ l, (rowL p l).length ≤ l.length
  | [] => Nat.le_refl _
  | c :: r => by
    unfold rowL; split
    · have := rowL_le p r; simp; omega
    · simp
theorem rowL_pos {p : Nat → Bool} {c : UInt8} {r : By} (h : p c.toNat = true) : 0 < (rowL p (c :: r)).length := by
  unfold rowL; rw [if_pos h]; simp
theorem tokL_pos {l : By} {t : Tw} (h : tokL l = some t) : 0 < t.w ∧ t.w ≤ l.length := by
  cases l with
  | nil => cases h
  | cons b r =>
    rw [tokL_cons] at h
    split at h
    · rename_i hb
      split at h
      · cases h
      · cases h
        refine ⟨rowL_pos ?_, rowL_le _ _⟩
        unfold letN at hb; unfold resN; rw [hb]; rfl
    · split at h
      · rename_i hd
        split at h
        · cases h
        · cases h
          exact ⟨rowL_pos hd, rowL_le _ _⟩
      · split at h
        · cases h; simp
        · split at h
          · rename_i hh
            cases h
            refine ⟨by simp, ?_⟩
            cases r with
            | nil => simp at hh
            | cons x y => simp
          · cases h

theorem lexF_eq : ∀ (n m : Nat) (l : By) (i : Nat), l.length ≤ n → l.length ≤ m → lexF n l i = lexF m l i
  | 0, m, l, i, h, _ => by
    have : l = [] := List.length_eq_zero_iff.1 (by omega)
    subst this
    cases m <;> rfl
  | n + 1, 0, l, i, _, h => by
    have : l = [] := List.length_eq_zero_iff.1 (by omega)
    subst this; rfl
  | n + 1, m + 1, [], i, _, _ => rfl
  | n + 1, m + 1, b :: r, i, h1, h2 => by
    simp only [List.length_cons] at h1 h2
    unfold lexF
    split
    · exact lexF_eq n m r (i + 1) (by omega) (by omega)
    · split
      · exact lexF_eq n m _ _ (by rw [List.length_drop]; omega) (by rw [List.length_drop]; omega)
      · cases ht : tokL (b :: r) with
        | none => rfl
        | some t =>
          have hp := tokL_pos ht
          show (lexF n _ _).pre _ = (lexF m _ _).pre _
          rw [lexF_eq n m _ _ (by rw [List.length_drop, List.length_cons]; omega) (by rw [List.length_drop, List.length_cons]; omega)]

theorem lexL_blank {b : UInt8} {r : By} (i : Nat) (h : blaN b.toNat = true) : lexL (b :: r) i = lexL r (i + 1) := by
  unfold lexL
  rw [List.length_cons]
  conv => lhs; unfold lexF
  rw [if_pos h]
theorem not_bla {b : UInt8} (h : b.toNat = 45) : ¬ blaN b.toNat = true := by rw [h]; decide
theorem lexL_rem {b : UInt8} {r : By} (i : Nat) (h : b.toNat = 45) (h2 : r.head? = some 45) : lexL (b :: r) i = lexL (r.drop (rowL noNl r).length) (i + 1 + (rowL noNl r).length) := by
  unfold lexL
  rw [List.length_cons]
  conv => lhs; unfold lexF
  rw [if_neg (not_bla h), if_pos ⟨h, h2⟩]
  exact lexF_eq _ _ _ _ (by rw [List.length_drop]; omega) (Nat.le_refl _)
theorem lexL_bad {b : UInt8} {r : By} (i : Nat) (h : blaN b.toNat = false) (h2 : ¬ (b.toNat = 45 ∧ r.head? = some 45)) (ht : tokL (b :: r) = none) : lexL (b :: r) i = .bad i := by
  unfold lexL
  rw [List.length_cons]
  conv => lhs; unfold lexF
  rw [if_neg (by rw [h]; simp), if_neg h2, ht]
theorem lexL_tok {b : UInt8} {r : By} (i : Nat) (h : blaN b.toNat = false) (h2 : ¬ (b.toNat = 45 ∧ r.head? = some 45)) {t : Tw} (ht : tokL (b :: r) = some t) : lexL (b :: r) i = (lexL ((b :: r).drop t.w) (i + t.w)).pre [t.at i] := by
  have hp := tokL_pos ht
  unfold lexL
  rw [List.length_cons]
  conv => lhs; unfold lexF
  rw [if_neg (by rw [h]; simp), if_neg h2, ht]
  show (lexF r.length _ _).pre _ = _
  rw [lexF_eq r.length _ _ _ (by rw [List.length_drop, List.length_cons]; omega) (Nat.le_refl _)]

end Go.Proofs.Ytgkeblpjmfdhkaa

namespace Go.Proofs.Ytgkeblpjmfdhkaa
open Go.RowKit
set_option linter.unusedVariables false
set_option linter.unusedSimpArgs false

theorem ret_bool {a b : Bool} (h : a = b) : Ending.returned (.bool a) = .returned (.bool b) := by rw [h]
theorem shr_any (x y : Int) (h : 0 ≤ y) : Op.shift .shr .u64 x .u8 y = pure (.int .u64 (x.fdiv (2 ^ min y.toNat 64))) := by
  have h' : ¬ y < 0 := by omega
  simp [Op.shift, h', IntKind.bits]
def inB (lo hi : Int) (c : Nat) : Bool := bits .and .u64 (bits .or .u64 (lo.fdiv (2 ^ min c 64)) (hi.fdiv (2 ^ min ((c + 192) % 256) 64))) 1 == 1
theorem p_in (c : Nat) (lo hi : Int) (w : World) (hc : c ≤ 255) (v : Bool) (hv : inB lo hi c = v) :
    Calls Try.prog 158 #[.int .u8 (c : Int), .int .u64 lo, .int .u64 hi] w fun e w' => e = .returned (.bool v) ∧ w' = w := by
  obtain ⟨d, hd⟩ : ∃ d : Nat, (c + 192) % 256 = d := ⟨_, rfl⟩
  have e1 : ((c : Int) - 64) % 256 = (d : Int) := by omega
  have T1 := shr_any lo (c : Int) (by omega)
  have T2 := shr_any hi (d : Int) (by omega)
  unfold inB at hv
  rw [hd] at hv
  go_enter Try.func158, Try.ntmps158
  go_wp2
  go_ret
  exact ⟨rfl, rfl⟩

theorem in_isBlank : ∀ c, c < 256 → inB 4294968832 0 c = blaN c := by decide +kernel
theorem p_isBlank (c : Nat) (w : World) (hc : c ≤ 255) :
    Calls Try.prog 126 #[.int .u8 (c : Int)] w fun e w' => e = .returned (.bool (blaN c)) ∧ w' = w := by
  obtain ⟨v, hv⟩ : ∃ v, blaN c = v := ⟨_, rfl⟩
  have hi := in_isBlank c (by omega)
  rw [hv] at hi ⊢
  clear hv
  go_enter Try.func126, Try.ntmps126
  go_wp2_with (go_at_call 158; refine (p_in _ _ _ _ hc v hi).mono ?_; rintro e w' ⟨rfl, rfl⟩)
  go_ret
  exact ⟨rfl, rfl⟩
theorem in_isOfName : ∀ c, c < 256 → inB 287948901175001088 576460745995190270 c = resN c := by decide +kernel
theorem p_isOfName (c : Nat) (w : World) (hc : c ≤ 255) :
    Calls Try.prog 132 #[.int .u8 (c : Int)] w fun e w' => e = .returned (.bool (resN c)) ∧ w' = w := by
  obtain ⟨v, hv⟩ : ∃ v, resN c = v := ⟨_, rfl⟩
  have hi := in_isOfName c (by omega)
  rw [hv] at hi ⊢
  clear hv
  go_enter Try.func132, Try.ntmps132
  go_wp2_with (go_at_call 158; refine (p_in _ _ _ _ hc v hi).mono ?_; rintro e w' ⟨rfl, rfl⟩)
  go_ret
  exact ⟨rfl, rfl⟩
theorem p_isInLine (c : Nat) (w : World) (hc : c ≤ 255) :
    Calls Try.prog 129 #[.int .u8 (c : Int)] w fun e w' => e = .returned (.bool (noNl c)) ∧ w' = w := by
  go_enter Try.func129, Try.ntmps129
  go_wp2
  go_ret
  refine ⟨ret_bool ?_, rfl⟩
  rw [Bool.eq_iff_iff]; simp [noNl]; omega
theorem r_lower (c : Nat) (w : World) (hc : c ≤ 255) :
    Calls Try.prog 93 #[.int .u8 (c : Int)] w fun e w' => e = .returned (.bool (lowN c)) ∧ w' = w := by
  go_enter Try.func93, Try.ntmps93
  go_wp2
  all_goals
    go_ret
    refine ⟨ret_bool ?_, rfl⟩
    rw [Bool.eq_iff_iff]; simp [lowN]; omega
theorem r_upper (c : Nat) (w : World) (hc : c ≤ 255) :
    Calls Try.prog 94 #[.int .u8 (c : Int)] w fun e w' => e = .returned (.bool (uppN c)) ∧ w' = w := by
  go_enter Try.func94, Try.ntmps94
  go_wp2
  all_goals
    go_ret
    refine ⟨ret_bool ?_, rfl⟩
    rw [Bool.eq_iff_iff]; simp [uppN]; omega
theorem r_digit (c : Nat) (w : World) (hc : c ≤ 255) :
    Calls Try.prog 99 #[.int .u8 (c : Int)] w fun e w' => e = .returned (.bool (digN c)) ∧ w' = w := by
  go_enter Try.func99, Try.ntmps99
  go_wp2
  all_goals
    go_ret
    refine ⟨ret_bool ?_, rfl⟩
    rw [Bool.eq_iff_iff]; simp [digN]; omega
theorem r_rest (c : Nat) (w : World) (hc : c ≤ 255) :
    Calls Try.prog 95 #[.int .u8 (c : Int)] w fun e w' => e = .returned (.bool (resN c)) ∧ w' = w := by
  go_enter Try.func95, Try.ntmps95
  have e1 : (((c : Nat) : Int) == 95) = decide (c = 95) := by rw [Bool.eq_iff_iff]; simp; omega
  cases h1 : lowN c <;> cases h2 : uppN c <;> cases h3 : digN c
  all_goals
    go_wp2_with (first
      | (go_at_call 93; refine (r_lower _ _ hc).mono ?_; rw [h1]; rintro e w' ⟨rfl, rfl⟩)
      | (go_at_call 94; refine (r_upper _ _ hc).mono ?_; rw [h2]; rintro e w' ⟨rfl, rfl⟩)
      | (go_at_call 99; refine (r_digit _ _ hc).mono ?_; rw [h3]; rintro e w' ⟨rfl, rfl⟩))
    go_ret
    refine ⟨ret_bool ?_, rfl⟩
    simp [resN, h1, h2, h3]

end Go.Proofs.Ytgkeblpjmfdhkaa

namespace Go.Proofs.Ytgkeblpjmfdhkaa
open Go.RowKit
set_option linter.unusedVariables false
set_option linter.unusedSimpArgs false

theorem byte_le (c : UInt8) : c.toNat ≤ 255 := by have := c.toNat_lt; omega
theorem drop_at (s : ByteArray) (k : Nat) (h : k < s.size) : s.data.toList.drop k = s[k] :: s.data.toList.drop (k + 1) := by
  rw [List.drop_eq_getElem_cons (by simpa using h)]; rfl
theorem rowL_step {p : Nat → Bool} (s : ByteArray) (k : Nat) (h : k < s.size) (hp : p s[k].toNat = true) : (rowL p (s.data.toList.drop k)).length = (rowL p (s.data.toList.drop (k + 1))).length + 1 := by
  rw [drop_at s k h]; conv => lhs; unfold rowL
  rw [if_pos hp]; rfl
theorem rowL_stop {p : Nat → Bool} (s : ByteArray) (k : Nat) (h : k < s.size) (hp : p s[k].toNat = false) : (rowL p (s.data.toList.drop k)).length = 0 := by
  rw [drop_at s k h]; unfold rowL
  rw [if_neg (by rw [hp]; simp)]; rfl
theorem ret_i64 {a b : Int} (h : a = b) : Ending.returned (.int .i64 a) = .returned (.int .i64 b) := by rw [h]

set_option maxHeartbeats 1000000 in
theorem row_isInLine (s : ByteArray) (w : World) (hs : s.size ≤ maxLen) :
    Calls Try.prog 128 #[.string s, .func (.func 129) #[] #[]] w fun e w' => e = .returned (.int .i64 ((rowL noNl s.data.toList).length : Nat)) ∧ w' = w := by
  unfold maxLen at hs
  go_enter Try.func128, Try.ntmps128
  go_wp2
  go_loop [8] (fun i => ∃ k : Nat, k ≤ s.size ∧ i = .int .i64 k ∧ (rowL noNl s.data.toList).length = k + (rowL noNl (s.data.toList.drop k)).length) (fun i => s.size - (intOf i).toNat)
  case atStart => exact ⟨0, Nat.zero_le _, rfl, by simp⟩
  case round =>
    obtain ⟨k, hk, rfl, hr⟩ := hrel
    have HR := Lib.hid hr
    clear hr
    by_cases hlt : k < s.size
    · have hb : s[k].toNat ≤ 255 := byte_le _
      cases hp : noNl s[k].toNat
      · go_wp2_with (go_at_call 129; refine (p_isInLine _ _ hb).mono ?_; rw [hp]; rintro e w' ⟨rfl, rfl⟩)
        go_ret
        exact ⟨ret_i64 (by rw [HR.out, rowL_stop s k hlt hp]; simp), rfl⟩
      · go_wp2_with (go_at_call 129; refine (p_isInLine _ _ hb).mono ?_; rw [hp]; rintro e w' ⟨rfl, rfl⟩)
        go_round
        case rel => exact ⟨k + 1, by omega, by go_num, by rw [HR.out, rowL_step s k hlt hp]; omega⟩
        case measure => simp [intOf]; omega
    · go_wp2
      go_ret
      exact ⟨ret_i64 (by rw [HR.out, List.drop_of_length_le (by simp; omega)]; simp [rowL]; omega), rfl⟩

set_option maxHeartbeats 1000000 in
theorem row_isOfName (s : ByteArray) (w : World) (hs : s.size ≤ maxLen) :
    Calls Try.prog 128 #[.string s, .func (.func 132) #[] #[]] w fun e w' => e = .returned (.int .i64 ((rowL resN s.data.toList).length : Nat)) ∧ w' = w := by
  unfold maxLen at hs
  go_enter Try.func128, Try.ntmps128
  go_wp2
  go_loop [8] (fun i => ∃ k : Nat, k ≤ s.size ∧ i = .int .i64 k ∧ (rowL resN s.data.toList).length = k + (rowL resN (s.data.toList.drop k)).length) (fun i => s.size - (intOf i).toNat)
  case atStart => exact ⟨0, Nat.zero_le _, rfl, by simp⟩
  case round =>
    obtain ⟨k, hk, rfl, hr⟩ := hrel
    have HR := Lib.hid hr
    clear hr
    by_cases hlt : k < s.size
    · have hb : s[k].toNat ≤ 255 := byte_le _
      cases hp : resN s[k].toNat
      · go_wp2_with (go_at_call 132; refine (p_isOfName _ _ hb).mono ?_; rw [hp]; rintro e w' ⟨rfl, rfl⟩)
        go_ret
        exact ⟨ret_i64 (by rw [HR.out, rowL_stop s k hlt hp]; simp), rfl⟩
      · go_wp2_with (go_at_call 132; refine (p_isOfName _ _ hb).mono ?_; rw [hp]; rintro e w' ⟨rfl, rfl⟩)
        go_round
        case rel => exact ⟨k + 1, by omega, by go_num, by rw [HR.out, rowL_step s k hlt hp]; omega⟩
        case measure => simp [intOf]; omega
    · go_wp2
      go_ret
      exact ⟨ret_i64 (by rw [HR.out, List.drop_of_length_le (by simp; omega)]; simp [rowL]; omega), rfl⟩

end Go.Proofs.Ytgkeblpjmfdhkaa

namespace Go.Proofs.Ytgkeblpjmfdhkaa
open Go.RowKit
set_option linter.unusedVariables false
set_option linter.unusedSimpArgs false

theorem wordB_or (l : By) : wordB l = ((l == [100, 97, 116, 97]) || ((l == [108, 101, 116]) || ((l == [105, 110]) || ((l == [105, 102]) || ((l == [116, 104, 101, 110]) || ((l == [101, 108, 115, 101]) || ((l == [99, 97, 115, 101]) || ((l == [111, 102]) || ((l == [116, 114, 117, 101]) || (l == [102, 97, 108, 115, 101])))))))))) := by
  unfold wordB wordsL
  rw [Bool.eq_iff_iff]
  simp [List.contains_iff_mem]

set_option maxHeartbeats 2000000 in
theorem w_word (s : ByteArray) (w : World) :
    Calls Try.prog 96 #[.string s] w fun e w' => e = .returned (.bool (wordB s.data.toList)) ∧ w' = w := by
  rw [wordB_or, ← Lib.toList_data]
  go_enter Try.func96, Try.ntmps96
  go_wp2
  all_goals
    go_ret
    refine ⟨ret_bool ?_, rfl⟩
    first
      | (simp only [*, Bool.true_or, Bool.or_true, Bool.false_or]; done)
      | simp_all
end Go.Proofs.Ytgkeblpjmfdhkaa

namespace Go.Proofs.Ytgkeblpjmfdhkaa
open Go.RowKit
set_option linter.unusedVariables false
set_option linter.unusedSimpArgs false

theorem rowL_all (p : Nat → Bool) : ∀ l : By, (rowL p l).length = l.length ↔ l.all (fun c => p c.toNat) = true
  | [] => by simp [rowL]
  | c :: r => by
    have ih := rowL_all p r
    unfold rowL
    by_cases h : p c.toNat = true
    · rw [if_pos h]; simp [h, ih]
    · rw [if_neg h]; simp [h]
theorem rowB_iff (l : By) : rowB l = true ↔ l.length ≠ 0 ∧ l.length ≤ 30 ∧ (rowL resN l).length = l.length := by
  unfold rowB
  rw [rowL_all]
  simp [List.length_eq_zero_iff, and_assoc]
theorem len_data (s : ByteArray) : s.data.toList.length = s.size := by simp
theorem head_data (s : ByteArray) (h : 0 < s.size) : s.data.toList.headD 0 = s[0] := by
  have := drop_at s 0 h
  rw [List.drop_zero] at this
  rw [this]; rfl
theorem toList_ne {s : ByteArray} (h : 0 < s.size) : (s.toList == []) = false := by
  rw [Lib.toList_data]
  cases e : (s.data.toList == [])
  · rfl
  · exfalso
    simp at e
    rw [ByteArray.size, e] at h
    simp at h

theorem word_low {l : By} (h : wordB l = true) : lowN (l.headD 0).toNat = true := by
  rw [wordB_or] at h
  simp only [Bool.or_eq_true, beq_iff_eq] at h
  rcases h with h | h | h | h | h | h | h | h | h | h <;> subst h <;> decide
theorem low_upp {n : Nat} (h : lowN n = true) : uppN n = false := by
  simp [lowN] at h; simp [uppN]; omega
/-- A name; a Con. -/
def nameL (l : By) : Bool := kindL l == 1
def conL (l : By) : Bool := kindL l == 2
theorem nameL_eq (l : By) : nameL l = (rowB l && (lowN (l.headD 0).toNat && !wordB l)) := by
  unfold nameL kindL
  cases rowB l <;> cases wordB l <;> cases lowN (l.headD 0).toNat <;> cases uppN (l.headD 0).toNat <;> rfl
theorem conL_eq (l : By) : conL l = (rowB l && uppN (l.headD 0).toNat) := by
  unfold conL kindL
  cases hr : rowB l
  · rfl
  cases hw : wordB l
  · cases hl : lowN (l.headD 0).toNat
    · cases hu : uppN (l.headD 0).toNat <;> rfl
    · rw [low_upp hl]; rfl
  · rw [low_upp (word_low hw)]; rfl

set_option maxHeartbeats 1000000 in
theorem r_row (s : ByteArray) (w : World) (hs : s.size ≤ maxLen) :
    Calls Try.prog 148 #[.string s] w fun e w' => e = .returned (.bool (rowB s.data.toList)) ∧ w' = w := by
  unfold maxLen at hs
  go_enter Try.func148, Try.ntmps148
  go_wp2
  go_loop [3] (fun i => ∃ k : Nat, k ≤ s.size ∧ i = .int .i64 k ∧ (rowL resN s.data.toList).length = k + (rowL resN (s.data.toList.drop k)).length) (fun i => s.size - (intOf i).toNat)
  case atStart => exact ⟨0, Nat.zero_le _, rfl, by simp⟩
  case round =>
    obtain ⟨k, hk, rfl, hr⟩ := hrel
    have HR := Lib.hid hr
    clear hr
    by_cases hlt : k < s.size
    · have hb : s[k].toNat ≤ 255 := byte_le _
      cases hp : resN s[k].toNat
      · go_wp2_with (go_at_call 95; refine (r_rest _ _ hb).mono ?_; rw [hp]; rintro e w' ⟨rfl, rfl⟩)
        go_ret
        refine ⟨ret_bool ?_, rfl⟩
        rw [Bool.eq_iff_iff, rowB_iff, HR.out, rowL_stop s k hlt hp, len_data]; simp; omega
      · go_wp2_with (go_at_call 95; refine (r_rest _ _ hb).mono ?_; rw [hp]; rintro e w' ⟨rfl, rfl⟩)
        go_round
        case rel => exact ⟨k + 1, by omega, by go_num, by rw [HR.out, rowL_step s k hlt hp]; omega⟩
        case measure => simp [intOf]; omega
    · have hr2 : (rowL resN s.data.toList).length = s.size := by rw [HR.out, List.drop_of_length_le (by simp; omega)]; simp [rowL]; omega
      have HR2 := Lib.hid hr2
      clear hr2
      by_cases h0 : s.size = 0
      · have e0 : s = ⟨#[]⟩ := by apply ByteArray.ext; exact Array.eq_empty_of_size_eq_zero h0
        subst e0
        go_wp2
        go_ret
        exact ⟨rfl, rfl⟩
      · have e1 := toList_ne (s := s) (by omega)
        go_wp2
        go_ret
        refine ⟨ret_bool ?_, rfl⟩
        rw [Bool.eq_iff_iff, rowB_iff, HR2.out, len_data]
        constructor
        · intro h
          have h' := of_decide_eq_true h
          exact ⟨h0, by omega, rfl⟩
        · intro h
          have h' := h.2.1
          exact decide_eq_true (by omega)

set_option maxHeartbeats 1000000 in
theorem r_Name (s : ByteArray) (w : World) (hs : s.size ≤ maxLen) :
    Calls Try.prog 97 #[.string s] w fun e w' => e = .returned (.bool (nameL s.data.toList)) ∧ w' = w := by
  rw [nameL_eq]
  cases hr : rowB s.data.toList
  · go_enter Try.func97, Try.ntmps97
    go_wp2_with (go_at_call 148; refine (r_row _ _ hs).mono ?_; rw [hr]; rintro e w' ⟨rfl, rfl⟩)
    go_ret
    exact ⟨rfl, rfl⟩
  · have hpos : 0 < s.size := by have := (rowB_iff _).1 hr; rw [len_data] at this; omega
    rw [head_data s hpos]
    have hb : s[0].toNat ≤ 255 := byte_le _
    have HS := Lib.hid hs
    clear hs
    cases hl : lowN s[0].toNat <;> cases hw : wordB s.data.toList
    all_goals
      go_enter Try.func97, Try.ntmps97
      go_wp2_with (first
        | (go_at_call 148; refine (r_row _ _ HS.out).mono ?_; rw [hr]; rintro e w' ⟨rfl, rfl⟩)
        | (go_at_call 93; refine (r_lower _ _ hb).mono ?_; rw [hl]; rintro e w' ⟨rfl, rfl⟩)
        | (go_at_call 96; refine (w_word _ _).mono ?_; rw [hw]; rintro e w' ⟨rfl, rfl⟩))
      go_ret
      exact ⟨rfl, rfl⟩
set_option maxHeartbeats 1000000 in
theorem r_Con (s : ByteArray) (w : World) (hs : s.size ≤ maxLen) :
    Calls Try.prog 98 #[.string s] w fun e w' => e = .returned (.bool (conL s.data.toList)) ∧ w' = w := by
  rw [conL_eq]
  cases hr : rowB s.data.toList
  · go_enter Try.func98, Try.ntmps98
    go_wp2_with (go_at_call 148; refine (r_row _ _ hs).mono ?_; rw [hr]; rintro e w' ⟨rfl, rfl⟩)
    go_ret
    exact ⟨rfl, rfl⟩
  · have hpos : 0 < s.size := by have := (rowB_iff _).1 hr; rw [len_data] at this; omega
    rw [head_data s hpos]
    have hb : s[0].toNat ≤ 255 := byte_le _
    have HS := Lib.hid hs
    clear hs
    cases hl : uppN s[0].toNat
    all_goals
      go_enter Try.func98, Try.ntmps98
      go_wp2_with (first
        | (go_at_call 148; refine (r_row _ _ HS.out).mono ?_; rw [hr]; rintro e w' ⟨rfl, rfl⟩)
        | (go_at_call 94; refine (r_upper _ _ hb).mono ?_; rw [hl]; rintro e w' ⟨rfl, rfl⟩))
      go_ret
      exact ⟨rfl, rfl⟩

end Go.Proofs.Ytgkeblpjmfdhkaa

namespace Go.Proofs.Ytgkeblpjmfdhkaa
open Go.RowKit
set_option linter.unusedVariables false
set_option linter.unusedSimpArgs false

theorem ret_of {a b : Value} (h : a = b) : Ending.returned a = .returned b := by rw [h]
def stepN (n : Nat) (c : UInt8) : Nat := n * 10 + (c.toNat - 48)
theorem numL_le_app (b : By) : ∀ n : Nat, n ≤ b.foldl stepN n := by
  induction b with
  | nil => intro n; exact Nat.le_refl _
  | cons c r ih => intro n; exact Nat.le_trans (by unfold stepN; omega) (ih (stepN n c))
theorem numL_take (l : By) (k : Nat) : numL (l.take k) ≤ numL l := by
  have : numL l = (l.drop k).foldl stepN (numL (l.take k)) := by
    show l.foldl stepN 0 = (l.drop k).foldl stepN ((l.take k).foldl stepN 0)
    rw [← List.foldl_append, List.take_append_drop]
  rw [this]; exact numL_le_app _ _
theorem take_snoc (s : ByteArray) (k : Nat) (h : k < s.size) : s.data.toList.take (k + 1) = s.data.toList.take k ++ [s[k]] := by
  rw [List.take_succ_eq_append_getElem (by simpa using h)]; rfl
theorem numL_snoc (s : ByteArray) (k : Nat) (h : k < s.size) : numL (s.data.toList.take (k + 1)) = numL (s.data.toList.take k) * 10 + (s[k].toNat - 48) := by
  rw [take_snoc s k h]; unfold numL; rw [List.foldl_append]; rfl
theorem all_at {p : Nat → Bool} (s : ByteArray) (ha : s.data.toList.all (fun c => p c.toNat) = true) (k : Nat) (h : k < s.size) : p s[k].toNat = true :=
  List.all_eq_true.1 ha _ (by
    have : s[k] = s.data.toList[k]'(by simpa using h) := rfl
    rw [this]; exact List.getElem_mem _)
def badInt (s : ByteArray) : Prop := (1 < s.size ∧ (s.data.toList.headD 0).toNat = 48) ∨ 2147483647 < numL s.data.toList
instance decBadInt (s : ByteArray) : Decidable (badInt s) := by unfold badInt; infer_instance

end Go.Proofs.Ytgkeblpjmfdhkaa

namespace Go.Proofs.Ytgkeblpjmfdhkaa
open Go.RowKit
set_option linter.unusedVariables false
set_option linter.unusedSimpArgs false

theorem Try.u8Info : (Try.prog.info? 5).map (fun i => (i.zero, i.size, i.bytes)) = some (some (.int .u8 0), 1, 1) := by kernel_rfl
set_option maxHeartbeats 4000000 in
set_option maxRecDepth 100000 in
theorem s_clone (s : ByteArray) (w : World) (hlim : s.size ≤ 1000000) :
    Calls Try.prog 81 #[.string s] w fun e w' => e = .returned (.string s) ∧ Below w.heap.size w w' := by
  by_cases h0 : s.size = 0
  · have hs : s = ⟨#[]⟩ := by
      apply ByteArray.ext
      exact Array.eq_empty_of_size_eq_zero h0
    subst hs
    go_enter Try.func81, Try.ntmps81
    go_wp2
    go_ret
    exact ⟨rfl, Below.refl _ _⟩
  · obtain ⟨i0, hi, hz0, hz1, hz2⟩ := info_parts Try.u8Info
    have hinfo : (Try.prog.info? 5).map (·.size) = some 1 := by rw [hi]; simp [hz1]
    have hco : Try.prog.cellsOf 5 = 1 := by simp [Program.cellsOf, hi, hz1]
    obtain ⟨M, hM⟩ : ∃ M, M = madeCells (Value.int .u8 0).cells (((s.size : Nat) : Int).toNat * i0.size) := ⟨_, rfl⟩
    have hMs : M.size = s.size := by rw [hM, size_madeCells, hz1]; simp
    have hmk : ∀ W : World, (Instr.makeSlice 22 (.int .i64 (s.size : Int)) (.int .i64 (s.size : Int))).run Try.prog W = .ok (.slice (some ⟨W.heap.size, 0, none⟩) s.size s.size) (W.alloc (.cells M 5)) := fun W => by
      have h := run_make (P := Try.prog) W 22 5 i0 (.int .u8 0) Try.underlying22 hi hz0 .i64 .i64 (s.size : Int) (s.size : Int) (by omega) (by omega) (by rw [hz2]; omega) (by omega)
      rw [← hM] at h
      simpa using h
    clear hM
    have hcp := Lib.run_copy_row_string (P := Try.prog) (w.alloc (.cells M 5)) 22 9 3 5 w.heap.size 0 s.size s.size s M 5 Try.underlying22 hinfo (heap_alloc_new w _) (Nat.le_refl _) (by omega)
    obtain ⟨Y, hY⟩ : ∃ Y, Y = (M.toList.take 0 ++ Lib.byteCells s.data.toList ++ M.toList.drop (0 + s.size)).toArray := ⟨_, rfl⟩
    rw [← hY] at hcp
    have hYl : Y.toList = Lib.byteCells s.data.toList := by
      rw [hY, List.toList_toArray, List.take_zero, List.nil_append, List.drop_of_length_le (by rw [Array.length_toList]; omega), List.append_nil]
    have hYs : Y.size = s.size := by rw [← Array.length_toList, hYl, Lib.byteCells_length, ← Lib.size_eq]
    have hgY : ((w.alloc (.cells M 5)).setRow w.heap.size Y).heap[w.heap.size]? = some (.cells Y 5 (0, 0)) := setRow_heap _ _ M _ 5 (0, 0) (heap_alloc_new w _)
    have hne : s.data.toList ≠ [] := fun e => h0 (by rw [Lib.size_eq, e]; rfl)
    have hUS := Lib.run_unsafeString_row (P := Try.prog) ((w.alloc (.cells M 5)).setRow w.heap.size Y) 206 3 9 5 Try.underlying206 hco w.heap.size Y.size (by unfold World.shape?; rw [hgY]) s.data.toList hne (by rw [← Lib.size_eq]; omega) (by rw [← Lib.size_eq]; omega)
      (fun j x hx => Lib.cells_of_row hgY Y.size j _ (by rw [List.take_of_length_le (by rw [Array.length_toList]; exact Nat.le_refl _), hYl]; simp [Lib.byteCells, hx]))
    rw [← Lib.size_eq] at hUS
    clear hY
    go_enter Try.func81, Try.ntmps81
    go_wp2
    go_ret
    have hb1 : Below w.heap.size w (w.alloc (.cells M 5)) := (Below.refl _ w).alloc (Nat.le_refl _) _
    have hb2 : Below w.heap.size (w.alloc (.cells M 5)) ((w.alloc (.cells M 5)).setRow w.heap.size Y) := ⟨rfl, rfl, rfl, by simp, fun k hk => setRow_other _ _ _ _ (by omega)⟩
    exact ⟨rfl, Lib.below_freeze (hb1.trans hb2) (p := ⟨w.heap.size, 0, none⟩) (Nat.le_refl _) _⟩

end Go.Proofs.Ytgkeblpjmfdhkaa

namespace Go.Proofs.Ytgkeblpjmfdhkaa
open Go.RowKit
set_option linter.unusedVariables false
set_option linter.unusedSimpArgs false

def strB (l : By) : ByteArray := ⟨l.toArray⟩
theorem strB_data (l : By) : (strB l).data.toList = l := by simp [strB]
theorem strB_size (l : By) : (strB l).size = l.length := by simp [strB, ByteArray.size]
theorem eq_strB {s : ByteArray} {l : By} (h : s.data.toList = l) : s = strB l := by apply ByteArray.ext; rw [← h]; simp [strB]
theorem ext_data (s : ByteArray) (i j : Nat) : (s.extract i j).data.toList = (s.data.toList.drop i).take (j - i) := by
  simp [ByteArray.data_extract, Array.toList_extract, List.extract]
theorem rowL_yes {p : Nat → Bool} {c : UInt8} {r : By} (h : p c.toNat = true) : rowL p (c :: r) = c :: rowL p r := by
  conv => lhs; unfold rowL
  rw [if_pos h]
theorem rowL_no {p : Nat → Bool} {c : UInt8} {r : By} (h : ¬ p c.toNat = true) : rowL p (c :: r) = [] := by
  unfold rowL; rw [if_neg h]
theorem rowL_take (p : Nat → Bool) : ∀ l : By, rowL p l = l.take (rowL p l).length
  | [] => rfl
  | c :: r => by
    have ih := rowL_take p r
    by_cases h : p c.toNat = true
    · rw [rowL_yes h, List.length_cons, List.take_succ_cons, ← ih]
    · rw [rowL_no h]; rfl
theorem rowL_all_p (p : Nat → Bool) : ∀ l : By, (rowL p l).all (fun c => p c.toNat) = true
  | [] => rfl
  | c :: r => by
    unfold rowL
    by_cases h : p c.toNat = true
    · rw [if_pos h, List.all_cons, h, rowL_all_p p r]; rfl
    · rw [if_neg h]; rfl
section
variable {w w' : World} {b : Nat} {t : TypeId} {c0 c1 c2 c3 : Value}
theorem Box.fourb (h : Box w b t [c0, c1, c2, c3]) : w.cell? ⟨b, 0, none⟩ = some c0 ∧ w.cell? ⟨b, 1, none⟩ = some c1 ∧ w.cell? ⟨b, 2, none⟩ = some c2 ∧ w.cell? ⟨b, 3, none⟩ = some c3 ∧
    w.frozen? ⟨b, 0, none⟩ = false ∧ w.frozen? ⟨b, 1, none⟩ = false ∧ w.frozen? ⟨b, 2, none⟩ = false ∧ w.frozen? ⟨b, 3, none⟩ = false :=
  ⟨h.cell 0, h.cell 1, h.cell 2, h.cell 3, h.frozen 0, h.frozen 1, h.frozen 2, h.frozen 3⟩
end
end Go.Proofs.Ytgkeblpjmfdhkaa

namespace Go.Proofs.Ytgkeblpjmfdhkaa
open Go.RowKit
set_option linter.unusedVariables false
set_option linter.unusedSimpArgs false

abbrev D (s : ByteArray) (k : Nat) : By := s.data.toList.drop k
/-- Nothing at k goes: no blank, no remark. -/
def Stands (s : ByteArray) (k : Nat) : Prop := ∀ h : k < s.size, blaN s[k].toNat = false ∧ ¬ (s[k].toNat = 45 ∧ (D s (k + 1)).head? = some 45)

theorem lex_blank (s : ByteArray) (k : Nat) (h : k < s.size) (hb : blaN s[k].toNat = true) : lexL (D s k) k = lexL (D s (k + 1)) (k + 1) := by
  unfold D; rw [drop_at s k h, lexL_blank k hb]
theorem dash_of {c : UInt8} (h : c.toNat = 45) : c = 45 := UInt8.toNat_inj.1 (by rw [h]; rfl)
theorem lex_rem (s : ByteArray) (k : Nat) (h : k < s.size) (hr : s[k].toNat = 45 ∧ (D s (k + 1)).head? = some 45) (m : Nat) (hm : (rowL noNl (D s k)).length = m) :
    0 < m ∧ k + m ≤ s.size ∧ lexL (D s k) k = lexL (D s (k + m)) (k + m) := by
  have hd := drop_at s k h
  have hn : noNl s[k].toNat = true := by rw [hr.1]; rfl
  have e1 : (rowL noNl (D s k)).length = (rowL noNl (D s (k + 1))).length + 1 := by unfold D; rw [hd, rowL_yes hn]; rfl
  have hle := rowL_le noNl (D s k)
  have hl : (D s k).length = s.size - k := by unfold D; rw [List.length_drop, len_data]
  refine ⟨by omega, by omega, ?_⟩
  have e2 := lexL_rem (b := s[k]) (r := D s (k + 1)) k hr.1 hr.2
  rw [show D s k = s[k] :: D s (k + 1) from hd, e2]
  have e3 : (D s (k + 1)).drop (rowL noNl (D s (k + 1))).length = D s (k + m) := by
    unfold D at *; rw [List.drop_drop]; congr 1; omega
  rw [e3]; congr 1; omega

end Go.Proofs.Ytgkeblpjmfdhkaa

namespace Go.Proofs.Ytgkeblpjmfdhkaa
open Go.RowKit
set_option linter.unusedVariables false
set_option linter.unusedSimpArgs false

theorem Try.tokInfo : (Try.prog.info? 103).map (fun i => (i.zero, i.size, i.bytes)) = some (some (.agg #[.int .i64 0, .int .i64 0, .string ⟨#[]⟩, .int .i64 0]), 4, 40) := by kernel_rfl

/-- A token's cells. -/
def tkC (t : Tk) : List Value := [.int .i64 (t.k : Int), .int .i64 (t.p : Int), .string (strB t.s), .int .i64 (t.n : Int)]
theorem tkC_length (t : Tk) : (tkC t).length = 4 := rfl
def tkCs (ts : List Tk) : List Value := ts.flatMap tkC
theorem tkCs_snoc (ts : List Tk) (t : Tk) : tkCs (ts ++ [t]) = tkCs ts ++ tkC t := by unfold tkCs; simp
/-- What Lex tells: tokens in new memory, or an error. -/
def LexOut (w : World) (x : Lx) (v : Value) (E A : Int) (w' : World) : Prop :=
  match x with
  | Sum.inl i => v = .slice none 0 0 ∧ E = 3 ∧ A = i
  | Sum.inr ts => w'.ownsRow w.heap.size 103 4 v ts.length (tkCs ts) ∧ E = 0 ∧ A = 0

theorem tok_len (s : ByteArray) (k : Nat) (h : k < s.size) : (D s k).length = s.size - k := by unfold D; rw [List.length_drop, len_data]
theorem lex_bad (s : ByteArray) (k : Nat) (h : k < s.size) (hs : Stands s k) (ht : tokL (D s k) = none) : lexL (D s k) k = .bad k := by
  have hd := drop_at s k h
  rw [show D s k = s[k] :: D s (k + 1) from hd] at ht ⊢
  exact lexL_bad k (hs h).1 (hs h).2 ht
theorem lex_tok (s : ByteArray) (k : Nat) (h : k < s.size) (hs : Stands s k) {t : Tw} (ht : tokL (D s k) = some t) : 0 < t.w ∧ k + t.w ≤ s.size ∧ lexL (D s k) k = (lexL (D s (k + t.w)) (k + t.w)).pre [t.at k] := by
  have hp := tokL_pos ht
  rw [tok_len s k h] at hp
  refine ⟨hp.1, by omega, ?_⟩
  have hd := drop_at s k h
  have ht' := ht
  rw [show D s k = s[k] :: D s (k + 1) from hd] at ht ⊢
  rw [lexL_tok k (hs h).1 (hs h).2 ht, ← show D s k = s[k] :: D s (k + 1) from hd]
  unfold D
  rw [List.drop_drop]

theorem own_agree {w w' : World} {base n size : Nat} {e : TypeId} {v : Value} {xs : List Value} (h : w.ownsRow base e size v n xs) (hb : ∀ q, v.ownBlock = some q → w'.heap[q]? = w.heap[q]?) : w'.ownsRow base e size v n xs := by
  obtain ⟨h1, h2 | ⟨q, cap, cur, rfl, hb', hq, r⟩⟩ := h
  · exact ⟨h1, .inl h2⟩
  · exact ⟨h1, .inr ⟨q, cap, cur, rfl, hb', (hb q rfl).trans hq, r⟩⟩
theorem news_of {w : World} {t : TypeId} {cs : List Value} {H : Nat} (hH : w.heap.size = H) : ∀ j u, cs[j]? = some u → (w.alloc (.cells cs.toArray t)).cell? ((⟨H, 0, none⟩ : Addr).add j) = some u := fun j u hu => by
  rw [Addr.add_lit, Nat.zero_add, ← hH, (Box.new w t cs).cell j]; exact hu
theorem tkC_one (t : Tk) : ∀ u ∈ tkC t, u.oneCell' = true := by
  intro u hu; simp [tkC] at hu; rcases hu with rfl | rfl | rfl | rfl <;> rfl
theorem tokL_len {l : By} {t : Tw} (h : tokL l = some t) : t.s.length ≤ t.w := by
  cases l with
  | nil => cases h
  | cons b r =>
    rw [tokL_cons] at h
    split at h
    · split at h
      · cases h
      · cases h; exact Nat.le_refl _
    · split at h
      · split at h
        · cases h
        · cases h; exact Nat.zero_le _
      · split at h
        · cases h; exact Nat.le_refl _
        · split at h
          · cases h; exact Nat.le_refl _
          · cases h

end Go.Proofs.Ytgkeblpjmfdhkaa

namespace Go.Proofs.Ytgkeblpjmfdhkaa
open Go.RowKit
set_option linter.unusedVariables false
set_option linter.unusedSimpArgs false

theorem Try.intCells : Try.prog.cellsOf 3 = 1 := by kernel_rfl
theorem Try.strCells : Try.prog.cellsOf 9 = 1 := by kernel_rfl
theorem Try.typesPos2 : ∃ m, Try.prog.types.size = m + 3 := ⟨Try.prog.types.size - 3, by have : 3 ≤ Try.prog.types.size := of_decide_eq_true (by kernel_rfl); omega⟩

def fits (x : Int) : Prop := -9223372036854775808 ≤ x ∧ x ≤ 9223372036854775807
theorem fits_wf {x : Int} (h : fits x) : (Lit.int .i64 x).wf = true := WalkArith.wf_i64 (by unfold fits at h; omega)

/-- A token that the machine holds. -/
def Tk.fit (t : Tk) : Prop := t.k ≤ 5 ∧ t.p ≤ 1000000 ∧ t.s.length ≤ 1000000 ∧ t.n ≤ 2147483647
theorem kindL_le (l : By) : kindL l ≤ 4 := by
  unfold kindL; split
  · omega
  · split
    · omega
    · split
      · omega
      · split <;> omega
theorem tokL_fit {l : By} {t : Tw} (h : tokL l = some t) : t.k ≤ 5 ∧ t.s.length ≤ t.w ∧ t.n ≤ 2147483647 := by
  refine ⟨?_, tokL_len h, ?_⟩
  all_goals
    cases l with
    | nil => cases h
    | cons b r =>
      rw [tokL_cons] at h
      split at h
      · split at h
        · cases h
        · cases h; first | exact Nat.le_succ_of_le (kindL_le _) | exact Nat.zero_le _
      · split at h
        · split at h
          · cases h
          · rename_i hq; cases h; first | (show numL _ ≤ _; omega) | (show 3 ≤ 5; omega)
        · split at h
          · cases h; first | exact Nat.le_refl _ | exact Nat.zero_le _
          · split at h
            · cases h; first | exact Nat.le_refl _ | exact Nat.zero_le _
            · cases h
theorem pre_ok {ts l : List Tk} {x : Lx} (h : x.pre ts = .ok l) : ∃ l', x = .ok l' ∧ l = ts ++ l' := by
  rcases Lx.cases x with ⟨i, rfl⟩ | ⟨l', rfl⟩
  · exact (Lx.bad_ok h).elim
  · exact ⟨l', rfl, (Lx.ok_inj h).symm⟩
theorem lexF_fit : ∀ (n : Nat) (l : By) (i : Nat) (ts : List Tk), l.length ≤ n → i + l.length ≤ 1000000 → lexF n l i = .ok ts → ∀ t ∈ ts, t.fit
  | 0, l, i, ts, _, _, h => by obtain rfl := Lx.ok_inj h; simp
  | n + 1, [], i, ts, _, _, h => by obtain rfl := Lx.ok_inj h; simp
  | n + 1, b :: r, i, ts, hn, hi, h => by
    simp only [List.length_cons] at hn hi
    unfold lexF at h
    split at h
    · exact lexF_fit n r (i + 1) ts (by omega) (by omega) h
    · split at h
      · have := rowL_le noNl r
        exact lexF_fit n _ _ ts (by rw [List.length_drop]; omega) (by rw [List.length_drop]; omega) h
      · cases ht : tokL (b :: r) with
        | none => rw [ht] at h; exact (Lx.bad_ok h).elim
        | some t =>
          rw [ht] at h
          have hp := tokL_pos ht
          simp only [List.length_cons] at hp
          obtain ⟨l', h1, rfl⟩ := pre_ok h
          obtain ⟨f1, f2, f3⟩ := tokL_fit ht
          intro x hx
          simp at hx
          rcases hx with rfl | hx
          · exact ⟨f1, by show i ≤ _; omega, by show t.s.length ≤ _; omega, f3⟩
          · exact lexF_fit n _ _ l' (by rw [List.length_drop, List.length_cons]; omega) (by rw [List.length_drop, List.length_cons]; omega) h1 x hx
theorem lexL_fit {l : By} {ts : List Tk} (hl : l.length ≤ 1000000) (h : lexL l 0 = .ok ts) : ∀ t ∈ ts, t.fit := lexF_fit _ l 0 ts (Nat.le_refl _) (by omega) h

theorem lexF_len : ∀ (n : Nat) (l : By) (i : Nat) (ts : List Tk), l.length ≤ n → lexF n l i = .ok ts → ts.length ≤ l.length
  | 0, l, i, ts, _, h => by obtain rfl := Lx.ok_inj h; simp
  | n + 1, [], i, ts, _, h => by obtain rfl := Lx.ok_inj h; simp
  | n + 1, b :: r, i, ts, hn, h => by
    simp only [List.length_cons] at hn ⊢
    unfold lexF at h
    split at h
    · have := lexF_len n r (i + 1) ts (by omega) h; omega
    · split at h
      · have := lexF_len n _ _ ts (by rw [List.length_drop]; omega) h
        rw [List.length_drop] at this; omega
      · cases ht : tokL (b :: r) with
        | none => rw [ht] at h; exact (Lx.bad_ok h).elim
        | some t =>
          rw [ht] at h
          have hp := tokL_pos ht
          simp only [List.length_cons] at hp
          obtain ⟨l', h1, rfl⟩ := pre_ok h
          have := lexF_len n _ _ l' (by rw [List.length_drop, List.length_cons]; omega) h1
          rw [List.length_drop, List.length_cons] at this
          simp; omega
theorem lexL_len {l : By} {ts : List Tk} (h : lexL l 0 = .ok ts) : ts.length ≤ l.length := lexF_len _ l 0 ts (Nat.le_refl _) h

def TR (hi : Nat) (w : World) (a : Option Addr) (n : Nat) (ts : List Tk) : Prop :=
  ts.length = n ∧ (n = 0 ∨ ∃ b off, a = some ⟨b, off, none⟩ ∧ b < hi ∧ ∀ (i : Nat) (t : Tk), ts[i]? = some t →
    w.cell? ⟨b, off + i * 4, none⟩ = some (.int .i64 (t.k : Int)) ∧ w.cell? ⟨b, off + i * 4 + 1, none⟩ = some (.int .i64 (t.p : Int)) ∧ w.cell? ⟨b, off + i * 4 + 2, none⟩ = some (.string (strB t.s)) ∧ w.cell? ⟨b, off + i * 4 + 3, none⟩ = some (.int .i64 (t.n : Int)))
theorem TR.below {hi n B : Nat} {w w' : World} {a : Option Addr} {ts : List Tk} (h : TR hi w a n ts) (hb : Below B w w') (hh : hi ≤ B) : TR hi w' a n ts := by
  obtain ⟨h1, h2 | ⟨b, off, rfl, hl, hc⟩⟩ := h
  · exact ⟨h1, .inl h2⟩
  · refine ⟨h1, .inr ⟨b, off, rfl, hl, fun i t ht => ?_⟩⟩
    obtain ⟨c0, c1, c2, c3⟩ := hc i t ht
    have hbb : b < B := by omega
    exact ⟨(hb.cell (p := ⟨b, off + i * 4, none⟩) hbb).trans c0, (hb.cell (p := ⟨b, off + i * 4 + 1, none⟩) hbb).trans c1, (hb.cell (p := ⟨b, off + i * 4 + 2, none⟩) hbb).trans c2, (hb.cell (p := ⟨b, off + i * 4 + 3, none⟩) hbb).trans c3⟩
theorem TR.mono {hi hi' n : Nat} {w : World} {a : Option Addr} {ts : List Tk} (h : TR hi w a n ts) (hh : hi ≤ hi') : TR hi' w a n ts := by
  obtain ⟨h1, h2 | ⟨b, off, rfl, hl, hc⟩⟩ := h
  · exact ⟨h1, .inl h2⟩
  · exact ⟨h1, .inr ⟨b, off, rfl, by omega, hc⟩⟩
theorem tkCs_at : ∀ (ts : List Tk) (i : Nat) (t : Tk), ts[i]? = some t → ∀ j, j < 4 → (tkCs ts)[i * 4 + j]? = (tkC t)[j]?
  | q :: r, 0, t, h, j, hj => by
    simp at h; subst h
    unfold tkCs
    rw [List.flatMap_cons, List.getElem?_append_left (by rw [tkC_length]; omega)]
    simp
  | q :: r, i + 1, t, h, j, hj => by
    have ih := tkCs_at r i t (by simpa using h) j hj
    unfold tkCs at *
    rw [List.flatMap_cons, List.getElem?_append_right (by rw [tkC_length]; omega), tkC_length, ← ih]
    congr 1; omega
theorem TR.of_owns {w : World} {base : Nat} {v : Value} {ts : List Tk} (h : w.ownsRow base 103 4 v ts.length (tkCs ts)) : ∃ a c, v = .slice a ts.length c ∧ ts.length ≤ c ∧ TR w.heap.size w a ts.length ts := by
  obtain ⟨_, ⟨rfl, h0⟩ | ⟨g, cap, cur, rfl, hb, hg, hcap, _, hsz, ht⟩⟩ := h
  · exact ⟨none, 0, by rw [h0], by omega, rfl, .inl h0⟩
  · refine ⟨_, _, rfl, hcap, rfl, .inr ⟨g, 0, rfl, (Array.getElem?_eq_some_iff.1 hg).1, fun i t hti => ?_⟩⟩
    have hc : ∀ j, j < 4 → w.cell? ⟨g, 0 + (i * 4 + j), none⟩ = (tkC t)[j]? := fun j hj => by
      have h1 := tkCs_at ts i t hti j hj
      rw [← ht, List.getElem?_take] at h1
      rw [Nat.zero_add, cell_of_row w g _ cur 103 (0, 0) hg]
      have hi : i < ts.length := (List.getElem?_eq_some_iff.1 hti).1
      rw [if_pos (by omega)] at h1
      simpa using h1
    have c0 := hc 0 (by omega)
    have c1 := hc 1 (by omega)
    have c2 := hc 2 (by omega)
    have c3 := hc 3 (by omega)
    exact ⟨by simpa [tkC] using c0, by simpa [tkC, Nat.add_assoc] using c1, by simpa [tkC, Nat.add_assoc] using c2, by simpa [tkC, Nat.add_assoc] using c3⟩
theorem TR.cell {hi n : Nat} {w : World} {a : Option Addr} {ts : List Tk} (h : TR hi w a n ts) (hn : n ≠ 0) : ∃ b off, a = some ⟨b, off, none⟩ ∧ b < hi ∧ ∀ (i : Nat) (t : Tk), ts[i]? = some t →
    w.cell? ⟨b, off + i * 4, none⟩ = some (.int .i64 (t.k : Int)) ∧ w.cell? ⟨b, off + i * 4 + 1, none⟩ = some (.int .i64 (t.p : Int)) ∧ w.cell? ⟨b, off + i * 4 + 2, none⟩ = some (.string (strB t.s)) ∧ w.cell? ⟨b, off + i * 4 + 3, none⟩ = some (.int .i64 (t.n : Int)) :=
  h.2.resolve_left hn

end Go.Proofs.Ytgkeblpjmfdhkaa
