/- Stores of whole structs within a block; rows in a block. The document's Play: how its workers lie in memory; stores of whole structs within a block. -/
import Derived.Test.YtpfcpeljfgmjgaaDoorZpa
import Derived.Test.YtpfcpeljfgmjgaaDoorZpn
import Derived.Deep.MidRow
import Derived.Test.YtpfcpeljfgmjgaaDoorPgamez
import Derived.Test.YtpfcpeljfgmjgaaDoorZpp
namespace Go.Proofs.YtpfcpeljfgmjgaaDoor
open Go.RowKit
set_option linter.unusedVariables false
set_option linter.unusedSimpArgs false

end Go.Proofs.YtpfcpeljfgmjgaaDoor

namespace Go.Proofs.YtpfcpeljfgmjgaaDoor
open Go.RowKit
set_option linter.unusedVariables false
set_option linter.unusedSimpArgs false

theorem Box.c14 {w : World} {b : Nat} {t : TypeId} {c0 c1 c2 c3 c4 c5 c6 c7 c8 c9 c10 c11 c12 c13 : Value} (h : Box w b t [c0, c1, c2, c3, c4, c5, c6, c7, c8, c9, c10, c11, c12, c13]) : w.cell? ⟨b, 0, none⟩ = some c0 ∧ w.cell? ⟨b, 1, none⟩ = some c1 ∧ w.cell? ⟨b, 2, none⟩ = some c2 ∧ w.cell? ⟨b, 3, none⟩ = some c3 ∧ w.cell? ⟨b, 4, none⟩ = some c4 ∧ w.cell? ⟨b, 5, none⟩ = some c5 ∧ w.cell? ⟨b, 6, none⟩ = some c6 ∧ w.cell? ⟨b, 7, none⟩ = some c7 ∧ w.cell? ⟨b, 8, none⟩ = some c8 ∧ w.cell? ⟨b, 9, none⟩ = some c9 ∧ w.cell? ⟨b, 10, none⟩ = some c10 ∧ w.cell? ⟨b, 11, none⟩ = some c11 ∧ w.cell? ⟨b, 12, none⟩ = some c12 ∧ w.cell? ⟨b, 13, none⟩ = some c13 :=
  ⟨h.cell 0, h.cell 1, h.cell 2, h.cell 3, h.cell 4, h.cell 5, h.cell 6, h.cell 7, h.cell 8, h.cell 9, h.cell 10, h.cell 11, h.cell 12, h.cell 13⟩
/-! ### Workers, each 14 cells -/
def ocell3 (o : Opn) : List Value := [.int .i64 (o.k : Int), .int .i64 (o.x : Int), .int .i64 o.y]
theorem ocell3_length (o : Opn) : (ocell3 o).length = 3 := rfl
def rcell (k : Wk) (a : Option Addr) (c : Nat) : List Value := .slice a k.left.length c :: .bool k.on :: (tcells k.t k.y ++ [.int .i64 (k.bg : Int), .int .i64 (k.mt : Int)])
theorem rcell_length (k : Wk) (a : Option Addr) (c : Nat) : (rcell k a c).length = 14 := rfl
theorem rcell_one (k : Wk) (a : Option Addr) (c : Nat) : ∀ v ∈ rcell k a c, v.oneCell' = true := by
  intro v hv
  simp [rcell, tcells] at hv
  rcases hv with rfl | rfl | rfl | rfl | rfl | rfl | rfl | rfl | rfl | rfl | rfl | rfl | rfl | rfl <;> rfl
/-- What a worker has not begun. -/
def LeftAt (w : World) (A D WB : Nat) (a : Option Addr) (l : List Opn) : Prop := l = [] ∨ ∃ b off, a = some ⟨b, off, none⟩ ∧ A < b ∧ b < D ∧ b ≠ WB ∧ At 3 w b off (l.map ocell3)
theorem LeftAt.agree {w w' : World} {A D WB : Nat} {a : Option Addr} {l : List Opn} (h : LeftAt w A D WB a l) (hb : ∀ b, A < b → b < D → b ≠ WB → w'.heap[b]? = w.heap[b]?) : LeftAt w' A D WB a l := by
  rcases h with h | ⟨b, off, rfl, h1, h2, h3, h4⟩
  · exact .inl h
  · exact .inr ⟨b, off, rfl, h1, h2, h3, h4.agree (hb b h1 h2 h3)⟩
structure WR (w : World) (A D WB : Nat) (ws : List Wk) (xs : List (List Value)) : Prop where
  l : xs.length = ws.length
  r : RowsIn 14 w WB xs
  a : A < WB
  d : WB < D
  e : ∀ (i : Nat) (k : Wk), ws[i]? = some k → ∃ a c, xs[i]? = some (rcell k a c) ∧ k.left.length ≤ c ∧ LeftAt w A D WB a k.left
theorem WR.len {w : World} {A D WB : Nat} {ws : List Wk} {xs : List (List Value)} (h : WR w A D WB ws xs) : ∀ y ∈ xs, y.length = 14 := by
  intro y hy
  obtain ⟨i, hi, rfl⟩ := List.getElem_of_mem hy
  obtain ⟨a, c, h1, _⟩ := h.e i (ws[i]'(by have := h.l; omega)) (List.getElem?_eq_getElem _)
  rw [List.getElem?_eq_getElem hi] at h1
  rw [Option.some.inj h1]; exact rcell_length _ _ _
theorem WR.agree {w w' : World} {A D WB : Nat} {ws : List Wk} {xs : List (List Value)} (h : WR w A D WB ws xs) (hb : ∀ b, A < b → b < D → w'.heap[b]? = w.heap[b]?) (hs : w.heap.size ≤ w'.heap.size) : WR w' A D WB ws xs :=
  ⟨h.l, h.r.agree (hb WB h.a h.d) hs, h.a, h.d, fun i k hk => by
    obtain ⟨a, c, h1, h2, h3⟩ := h.e i k hk
    exact ⟨a, c, h1, h2, h3.agree fun b b1 b2 _ => hb b b1 b2⟩⟩
/-- One worker's row is another one's. -/
theorem WR.set {w w' : World} {A D WB i : Nat} {ws : List Wk} {xs : List (List Value)} {k' : Wk} {a' : Option Addr} {c' : Nat} (h : WR w A D WB ws xs) (hr : RowsIn 14 w' WB (xs.set i (rcell k' a' c'))) (ht : Two WB WB w w') (hi : i < ws.length) (hD : D ≤ w.heap.size)
    (hc : k'.left.length ≤ c') (hl : LeftAt w A D WB a' k'.left) : WR w' A D WB (ws.set i k') (xs.set i (rcell k' a' c')) := by
  have hag : ∀ b, A < b → b < D → b ≠ WB → w'.heap[b]? = w.heap[b]? := fun b _ h2 h3 => ht.block b (by omega) h3 h3
  refine ⟨by simp [h.l], hr, h.a, h.d, fun j k hk => ?_⟩
  rw [List.getElem?_set] at hk
  by_cases e : i = j
  · subst e
    rw [if_pos rfl, if_pos hi] at hk
    cases hk
    exact ⟨a', c', by rw [List.getElem?_set, if_pos rfl, if_pos (by rw [h.l]; exact hi)], hc, hl.agree hag⟩
  · rw [if_neg e] at hk
    obtain ⟨a, c, h1, h2, h3⟩ := h.e j k hk
    exact ⟨a, c, by rw [List.getElem?_set, if_neg e]; exact h1, h2, h3.agree hag⟩

/-! ### The state ahead of a time -/
structure RS (w : World) (O D WB : Nat) (n lc : Nat) (c : Option Addr) (cc : Nat) (xs : List (List Value)) (ev : Value) (au : Option Addr) (cu lo hi : Nat) (g : Gm) : Prop where
  box : Box w O 30 [ev, .slice au n cu, .int .i64 (g.tm : Int)]
  pb : Box w D 88 [.slice c lc cc, .int .i64 ((min g.tm lc : Nat) : Int), .int .i64 g.last]
  up : RowN lo hi w au n g.up
  uh : hi ≤ w.heap.size
  us : ∀ b, lo ≤ b → b < hi → (b < O ∨ D < b) ∧ ev.ownBlock ≠ some b
  rows : WR w O D WB g.ws xs
  evs : w.ownsRow (D + 1) 42 8 ev g.l.length (cellsE g.l)
  od : O < D
  ds : D < w.heap.size
/-- What is made anew leaves the state. -/
theorem RS.below {w w' : World} {O D WB n lc : Nat} {c : Option Addr} {cc : Nat} {xs : List (List Value)} {ev : Value} {au : Option Addr} {cu lo hi : Nat} {g : Gm} (h : RS w O D WB n lc c cc xs ev au cu lo hi g) (hb : Below w.heap.size w w') : RS w' O D WB n lc c cc xs ev au cu lo hi g := by
  have hd := h.ds
  have ho := h.od
  exact ⟨h.box.below hb, h.pb.below hb, h.up.below hb h.uh, Nat.le_trans h.uh hb.size, h.us, h.rows.agree (fun b _ h2 => hb.block b (by omega)) hb.size, ownsRow_below h.evs hb, ho, Nat.lt_of_lt_of_le hd hb.size⟩

/-- Who is next, as the document's Pick tells it. -/
theorem next_who {xs : List Int} {lc : Nat} {g : Gm} (hl : xs.length = lc) (hon : on 0 g.en ≠ []) :
    nextI xs ((min g.tm lc : Nat) : Int) g.last g.en = ((g.who xs : Nat) : Int) ∧ nextLast xs ((min g.tm lc : Nat) : Int) g.last g.en = ((g.who xs : Nat) : Int) ∧ nextAt xs ((min g.tm lc : Nat) : Int) g.en = ((min (g.tm + 1) lc : Nat) : Int) := by
  have hb : ∀ x : Nat, behindI g.en g.last = x → x = (behindI g.en g.last).toNat := fun x h => by rw [h]; rfl
  obtain ⟨q, _, hq⟩ := behindI_mem g.en g.last hon
  unfold Gm.who whoN
  by_cases h : g.tm < lc
  · have e1 : min g.tm lc = g.tm := by omega
    have e2 : min (g.tm + 1) lc = g.tm + 1 := by omega
    rw [e1, e2, if_pos (by omega)]
    have h1 : nextI xs (g.tm : Int) g.last g.en = ((on 0 g.en).getD (xs.getD g.tm 0 % ((on 0 g.en).length : Int)).toNat 0 : Nat) := by simp [nextI, hon, hl, h]
    refine ⟨h1, ?_, ?_⟩
    · rw [show nextLast xs (g.tm : Int) g.last g.en = nextI xs (g.tm : Int) g.last g.en by simp [nextLast, hon], h1]
    · simp [nextAt, hon, hl, h]
  · have e1 : min g.tm lc = lc := by omega
    have e2 : min (g.tm + 1) lc = lc := by omega
    rw [e1, e2, if_neg (by omega)]
    have h1 : nextI xs (lc : Int) g.last g.en = ((behindI g.en g.last).toNat : Int) := by
      rw [show nextI xs (lc : Int) g.last g.en = behindI g.en g.last by simp [nextI, hon, hl], hq]; rfl
    refine ⟨h1, ?_, ?_⟩
    · rw [show nextLast xs (lc : Int) g.last g.en = nextI xs (lc : Int) g.last g.en by simp [nextLast, hon], h1]
    · simp [nextAt, hon, hl]

end Go.Proofs.YtpfcpeljfgmjgaaDoor
