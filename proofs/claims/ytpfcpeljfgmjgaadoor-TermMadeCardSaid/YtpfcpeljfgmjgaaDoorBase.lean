/- Lemmas for the walks of this seat: a slice read in memory (RowF; of integers: Row; of bools: RowB; of words: RowU), a block of known cells (Box), append to a slice of the call's own. -/
import Derived.WalkKit
import Derived.WalkLawsBesides
import Derived.WalkSpells
import Derived.Outline
import Derived.Deep.QuietTactic
import Derived.BigQuiet
import Derived.BigRegion
import Derived.RegionTactic
import Derived.ChangeAlike
import Derived.Handy
import Derived.Laws.AppendOwnNone
import Derived.BigFrame
import Derived.Lib.Hide
namespace Go.Proofs.YtpfcpeljfgmjgaaDoor
open Go.RowKit

/-- A slice's value reads as these elements, each a cell; its cells lie in a block from 'lo' on, ahead of 'hi'. -/
def RowF {α : Type} (f : α → Value) (d : α) (lo hi : Nat) (w : World) (a : Option Addr) (len : Nat) (xs : List α) : Prop :=
  xs.length = len ∧ (len = 0 ∨ ∃ b off, a = some ⟨b, off, none⟩ ∧ lo ≤ b ∧ b < hi ∧ ∀ i, i < len → w.cell? ⟨b, off + i, none⟩ = some (f (xs.getD i d)))

abbrev Row := RowF (Value.int .i64) (0 : Int)
abbrev RowB := RowF Value.bool false
abbrev RowU := RowF (fun n : Nat => Value.int .u64 n) 0

theorem take_succ_eq {xs ys : List Int} {k : Nat} (hx : k < xs.length) (hy : k < ys.length) (h : xs.take k = ys.take k) (he : xs.getD k 0 = ys.getD k 0) : xs.take (k + 1) = ys.take (k + 1) := by
  have e : ∀ {zs : List Int}, k < zs.length → zs.take (k + 1) = zs.take k ++ [zs.getD k 0] := by
    intro zs hk
    rw [List.take_add_one, List.getElem?_eq_getElem hk]; simp [List.getD, hk]
  rw [e hx, e hy, h, he]

theorem RowF.of_owns {α : Type} {f : α → Value} {d : α} {w : World} {base e : Nat} {v : Value} {xs : List α} (h : w.ownsRow base e 1 v xs.length (xs.map f)) : ∃ a c, v = .slice a xs.length c ∧ RowF f d base w.heap.size w a xs.length xs := by
  obtain ⟨_, h | ⟨g, cap, cur, rfl, hb, hg, hn, hcap, hsz, ht⟩⟩ := h
  · obtain ⟨rfl, h⟩ := h
    exact ⟨none, 0, by rw [h], rfl, .inl h⟩
  · refine ⟨_, _, rfl, rfl, .inr ⟨g, 0, rfl, hb, (Array.getElem?_eq_some_iff.1 hg).1, fun i hi => ?_⟩⟩
    rw [Nat.zero_add, cell_of_row w g i cur e (0, 0) hg]
    have : (xs.map f)[i]? = some (f (xs.getD i d)) := by simp [hi]
    rw [← ht, List.getElem?_take] at this
    split at this
    · simpa using this
    · cases this

section
variable {α : Type} {f : α → Value} {d : α} {lo hi lo' hi' : Nat} {w w' : World} {a : Option Addr} {len : Nat} {xs : List α}

theorem RowF.agree (h : RowF f d lo hi w a len xs) (hb : ∀ k, lo ≤ k → k < hi → w'.heap[k]? = w.heap[k]?) : RowF f d lo hi w' a len xs := by
  obtain ⟨h1, h2 | ⟨b, off, rfl, hl, hh, hc⟩⟩ := h
  · exact ⟨h1, .inl h2⟩
  · exact ⟨h1, .inr ⟨b, off, rfl, hl, hh, fun i hi => (World.cell?_of_block (hb b hl hh)).trans (hc i hi)⟩⟩

theorem RowF.below (h : RowF f d lo hi w a len xs) {B : Nat} (hb : Below B w w') (hh : hi ≤ B) : RowF f d lo hi w' a len xs := h.agree fun k _ hk => hb.block k (by omega)

theorem RowF.set (h : RowF f d lo hi w a len xs) {p : Addr} (hp : p.block < lo ∨ hi ≤ p.block) (u : Value) : RowF f d lo hi (w.setCell p u) a len xs := h.agree fun k h1 h2 => Below.heap_setCell w p u k (by omega)

theorem RowF.alloc (h : RowF f d lo hi w a len xs) (hh : hi ≤ w.heap.size) (o : Obj) : RowF f d lo hi (w.alloc o) a len xs := h.agree fun k _ h2 => Below.heap_alloc w o k (by omega)

theorem RowF.drew (h : RowF f d lo hi w a len xs) : RowF f d lo hi w.drew a len xs := h

theorem RowF.grown (h : RowF f d lo hi w a len xs) {row : Option Nat} (hg : w.grownBy w' row) (hh : hi ≤ w.heap.size) (hr : ∀ k, row = some k → k < lo ∨ hi ≤ k) : RowF f d lo hi w' a len xs :=
  h.agree fun k h1 h2 => hg.block k (by omega) (fun e => by have := hr k e.symm; omega)

theorem RowF.mono (h : RowF f d lo hi w a len xs) (hl : lo' ≤ lo) (hh : hi ≤ hi') : RowF f d lo' hi' w a len xs := by
  obtain ⟨h1, h2 | ⟨b, off, rfl, hlb, hbb, hc⟩⟩ := h
  · exact ⟨h1, .inl h2⟩
  · exact ⟨h1, .inr ⟨b, off, rfl, by omega, by omega, hc⟩⟩

theorem RowF.news {a : Addr} (hx : RowF f d lo hi w (some a) len xs) : ∀ j u, (xs.map f)[j]? = some u → w.cell? (a.add j) = some u := by
  intro j u hu
  obtain ⟨hl, h | ⟨b, off, h, _, hbb, hc⟩⟩ := hx
  · have : xs = [] := List.length_eq_zero_iff.1 (by omega)
    subst this; simp at hu
  · cases h
    have hj : j < len := by have := (List.getElem?_eq_some_iff.1 hu).1; simp at this; omega
    rw [Addr.add_lit, hc j hj]
    rw [List.getElem?_map, List.getElem?_eq_getElem (by omega)] at hu
    simp at hu
    simp [List.getD, List.getElem?_eq_getElem (show j < xs.length by omega), hu]

theorem RowF.nil_len (hx : RowF f d lo hi w none len xs) : len = 0 := by
  obtain ⟨_, h | ⟨_, _, h, _⟩⟩ := hx
  · exact h
  · cases h
end

theorem after {W w1 : World} (hb : Below W.heap.size W w1) : (∀ b o, b < W.heap.size → w1.cell? ⟨b, o, none⟩ = W.cell? ⟨b, o, none⟩) ∧ (∀ b o, b < W.heap.size → w1.frozen? ⟨b, o, none⟩ = W.frozen? ⟨b, o, none⟩) :=
  ⟨fun b o h => hb.cell (p := ⟨b, o, none⟩) h, fun b o h => hb.frozen (p := ⟨b, o, none⟩) h⟩

theorem ownsRow_below {w w' : World} {base : Nat} {e : TypeId} {size : Nat} {v : Value} {n : Nat} {xs : List Value} (h : w.ownsRow base e size v n xs) (hb : Below w.heap.size w w') : w'.ownsRow base e size v n xs :=
  h.kept (row := none) ⟨hb.os, hb.tape, hb.output, hb.size, fun k hk _ => hb.block k hk⟩ (by cases v.ownBlock <;> simp)

/-- Block b holds just these cells, none of them frozen. -/
def Box (w : World) (b : Nat) (t : TypeId) (cs : List Value) : Prop := w.heap[b]? = some (.cells cs.toArray t (0, 0))

section
variable {w w' : World} {b : Nat} {t : TypeId} {cs : List Value}
theorem Box.cell (h : Box w b t cs) (i : Nat) : w.cell? ⟨b, i, none⟩ = cs[i]? := by
  unfold Box at h; simp [World.cell?, h]
theorem Box.frozen (h : Box w b t cs) (i : Nat) : w.frozen? ⟨b, i, none⟩ = false := by
  unfold Box at h; simp [World.frozen?, h]
theorem Box.lt (h : Box w b t cs) : b < w.heap.size := (Array.getElem?_eq_some_iff.1 h).1
theorem Box.below (h : Box w b t cs) (hb : Below w.heap.size w w') : Box w' b t cs := (hb.block b h.lt).trans h
theorem Box.new (w : World) (t : TypeId) (cs : List Value) : Box (w.alloc (.cells cs.toArray t)) w.heap.size t cs := by
  unfold Box World.alloc; simp
theorem Box.alloc (h : Box w b t cs) (o : Obj) : Box (w.alloc o) b t cs := (Below.heap_alloc w o b h.lt).trans h
theorem Box.set (h : Box w b t cs) (i : Nat) (u : Value) : Box (w.setCell ⟨b, i, none⟩ u) b t (cs.set i u) := by
  unfold Box at *
  simp [World.setCell, Array.getElem?_modify, h]
theorem Box.setOther (h : Box w b t cs) {a : Addr} (ha : b ≠ a.block) (u : Value) : Box (w.setCell a u) b t cs := (Below.heap_setCell w a u b ha).trans h
theorem Box.drew (h : Box w b t cs) : Box w.drew b t cs := h
theorem Box.grown (h : Box w b t cs) {row : Option Nat} (hg : w.grownBy w' row) (hne : some b ≠ row) : Box w' b t cs := (hg.block b h.lt hne).trans h
theorem Box.one {c0 : Value} (h : Box w b t [c0]) : w.cell? ⟨b, 0, none⟩ = some c0 ∧ w.frozen? ⟨b, 0, none⟩ = false := ⟨h.cell 0, h.frozen 0⟩
theorem Box.two {c0 c1 : Value} (h : Box w b t [c0, c1]) : w.cell? ⟨b, 0, none⟩ = some c0 ∧ w.cell? ⟨b, 1, none⟩ = some c1 ∧ w.frozen? ⟨b, 0, none⟩ = false ∧ w.frozen? ⟨b, 1, none⟩ = false := ⟨h.cell 0, h.cell 1, h.frozen 0, h.frozen 1⟩
theorem Box.three {c0 c1 c2 : Value} (h : Box w b t [c0, c1, c2]) : w.cell? ⟨b, 0, none⟩ = some c0 ∧ w.cell? ⟨b, 1, none⟩ = some c1 ∧ w.cell? ⟨b, 2, none⟩ = some c2 ∧ w.frozen? ⟨b, 0, none⟩ = false ∧ w.frozen? ⟨b, 1, none⟩ = false ∧ w.frozen? ⟨b, 2, none⟩ = false :=
  ⟨h.cell 0, h.cell 1, h.cell 2, h.frozen 0, h.frozen 1, h.frozen 2⟩
end

/-- 'append' to a slice of the call's own, whatever is appended (nil, too), guarded or not. -/
theorem wpList_append_any {P : Program} {w : World} {ops : Array Oper} {rest : List Oper} {o : Oper} {a : Act} {Q : Exit → Act → World → Prop} (hw : Region.wanted o (yielded ops a.tmps) = true) (s x : Operand) (t : TypeId)
    (ho : o.op = .call { callee := .builtin .append, args := #[s, x], argTypes := #[t, t] })
    (base : Nat) (e : TypeId) (i : TypeInfo) (z : Value) (size bytes : Nat) (ht : P.underlying t = some (.slice e)) (hi : P.info? e = some i) (hz : i.zero = some z)
    (hsize : i.size = size) (hby : i.bytes = bytes) (hzs : z.cells.size = size) (hsz : 0 < size)
    (v : Value) (n : Nat) (xs : List Value) (hs : a.eval s = v) (hown : w.ownsRow base e size v n xs)
    (ao : Option Addr) (m c : Nat) (news : List Value) (hx : a.eval x = .slice ao m c) (hnil : ao = none → m = 0 ∧ c = 0) (hl : news.length = m * size)
    (hnews : ∀ ad, ao = some ad → ∀ j u, news[j]? = some u → w.cell? (ad.add j) = some u) (h1 : ∀ u ∈ news, u.oneCell' = true)
    (h63 : n + m ≤ maxLen) (hbytes : (n + m) * bytes ≤ 140737488355328) (hbase : base ≤ w.heap.size)
    (h : ∀ v' w', w'.ownsRow base e size v' (n + m) (xs ++ news) → w.grownBy w' v.ownBlock → wpList P ops Q rest (a.put o.dst v') w') : wpList P ops Q (o :: rest) a w := by
  refine BigFrame.wpList_want hw fun K hK => ?_
  cases ao with
  | some ad => exact wp_append_own (w := w) s x t ho base e i z size bytes ht hi hz hsize hby hzs hsz v n xs hs hown ad m c news hx hl (hnews ad rfl) h1 h63 hbytes hbase (fun v' w' h2 h3 _ => hK _ _ (h v' w' h2 h3))
  | none =>
    obtain ⟨rfl, rfl⟩ := hnil rfl
    obtain rfl : news = [] := List.eq_nil_of_length_eq_zero (by simpa using hl)
    have hrun := run_append_owned_none (P := P) (w := w) base t o.type e i size ht hi v n xs hown
    unfold Oper.wp
    simp [execOp, ho, resolve, invoke, builtin, hs, hx, hrun, Result.andThen]
    exact hK _ _ (h v w (by simpa using hown) (World.grownBy.refl _ _))

end Go.Proofs.YtpfcpeljfgmjgaaDoor
