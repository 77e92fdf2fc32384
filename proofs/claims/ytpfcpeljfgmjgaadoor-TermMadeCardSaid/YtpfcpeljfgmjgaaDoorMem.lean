/- Words on memory: lists of k-celled things in a slice (Sl), rows in a block (RowsIn); stores of whole structs; rows that a call owns. No program. -/
import Derived.Test.YtpfcpeljfgmjgaaDoorTwo
import Derived.Deep.MidRow
import Derived.Deep.OwnRows
import Derived.Deep.AppendLies
namespace Go.Proofs.YtpfcpeljfgmjgaaDoor
open Go.RowKit
set_option linter.unusedVariables false
set_option linter.unusedSimpArgs false

/-- Cells of a list of k-celled things that lie from off on in block b. -/
def At (k : Nat) (w : World) (b off : Nat) (xs : List (List Value)) : Prop := ∀ (i : Nat) (x : List Value), xs[i]? = some x → ∀ (j : Nat) (v : Value), x[j]? = some v → w.cell? ⟨b, off + i * k + j, none⟩ = some v
theorem At.agree {k b off : Nat} {w w' : World} {xs : List (List Value)} (h : At k w b off xs) (hb : w'.heap[b]? = w.heap[b]?) : At k w' b off xs := fun i x hx j v hv => (World.cell?_of_block hb).trans (h i x hx j v hv)
theorem At.tail {k b off : Nat} {w : World} {x : List Value} {xs : List (List Value)} (h : At k w b off (x :: xs)) : At k w b (off + k) xs := fun i y hy j v hv => by
  have := h (i + 1) y (by simpa using hy) j v hv
  rwa [show off + (i + 1) * k + j = off + k + i * k + j by rw [Nat.add_mul]; omega] at this
/-- A slice of k-celled things, read in memory. -/
def Sl (k : Nat) (lo hi : Nat) (w : World) (a : Option Addr) (n : Nat) (xs : List (List Value)) : Prop :=
  xs.length = n ∧ (n = 0 ∨ ∃ b off, a = some ⟨b, off, none⟩ ∧ lo ≤ b ∧ b < hi ∧ At k w b off xs)
theorem Sl.agree {k lo hi n : Nat} {w w' : World} {a : Option Addr} {xs : List (List Value)} (h : Sl k lo hi w a n xs) (hb : ∀ b, lo ≤ b → b < hi → w'.heap[b]? = w.heap[b]?) : Sl k lo hi w' a n xs := by
  obtain ⟨h1, h2 | ⟨b, off, rfl, hl, hh, hc⟩⟩ := h
  · exact ⟨h1, .inl h2⟩
  · exact ⟨h1, .inr ⟨b, off, rfl, hl, hh, hc.agree (hb b hl hh)⟩⟩
theorem Sl.below {k lo hi n B : Nat} {w w' : World} {a : Option Addr} {xs : List (List Value)} (h : Sl k lo hi w a n xs) (hb : Below B w w') (hh : hi ≤ B) : Sl k lo hi w' a n xs := h.agree fun b _ hb' => hb.block b (by omega)
theorem Sl.mono {k lo hi lo' hi' n : Nat} {w : World} {a : Option Addr} {xs : List (List Value)} (h : Sl k lo hi w a n xs) (hl : lo' ≤ lo) (hh : hi ≤ hi') : Sl k lo' hi' w a n xs := by
  obtain ⟨h1, h2 | ⟨b, off, rfl, hlb, hbb, hc⟩⟩ := h
  · exact ⟨h1, .inl h2⟩
  · exact ⟨h1, .inr ⟨b, off, rfl, by omega, by omega, hc⟩⟩
/-- A flat row of k-celled things, thing by thing. -/
theorem flat_at {α : Type} {k : Nat} {f : α → List Value} (hk : ∀ x, (f x).length = k) : ∀ (l : List α) (i : Nat) (x : List Value), (l.map f)[i]? = some x → ∀ (j : Nat) (v : Value), x[j]? = some v → (l.flatMap f)[i * k + j]? = some v
  | q :: r, 0, x, hx, j, v, hv => by
    simp at hx; subst hx
    have hj : j < k := by have := (List.getElem?_eq_some_iff.1 hv).1; rwa [hk] at this
    rw [List.flatMap_cons, List.getElem?_append_left (by rw [hk]; omega)]
    simpa using hv
  | q :: r, i + 1, x, hx, j, v, hv => by
    have ih := flat_at hk r i x (by simpa using hx) j v hv
    rw [List.flatMap_cons, List.getElem?_append_right (by rw [hk, Nat.add_mul]; omega), hk, ← ih]
    congr 1
    rw [Nat.add_mul]; omega
theorem flat_length {α : Type} {k : Nat} {f : α → List Value} (hk : ∀ x, (f x).length = k) : ∀ (l : List α), (l.flatMap f).length = l.length * k
  | [] => by simp
  | q :: r => by rw [List.flatMap_cons, List.length_append, hk, flat_length hk r, List.length_cons, Nat.add_mul]; omega
theorem Sl.of_owns {α : Type} {k base n : Nat} {e : TypeId} {f : α → List Value} (hk : ∀ x, (f x).length = k) {w : World} {v : Value} {l : List α} (h : w.ownsRow base e k v n (l.flatMap f)) (hl : l.length = n) : ∃ a c, v = .slice a n c ∧ n ≤ c ∧ Sl k base w.heap.size w a n (l.map f) := by
  obtain ⟨_, ⟨rfl, h0⟩ | ⟨g, cap, cur, rfl, hb, hg, hcap, _, hsz, ht⟩⟩ := h
  · exact ⟨none, 0, by rw [h0], by omega, by simpa using hl, .inl h0⟩
  · refine ⟨_, _, rfl, hcap, by simpa using hl, .inr ⟨g, 0, rfl, hb, (Array.getElem?_eq_some_iff.1 hg).1, fun i x hx j u hu => ?_⟩⟩
    have h1 := flat_at hk l i x hx j u hu
    have hi : i < n := by have := (List.getElem?_eq_some_iff.1 hx).1; simp at this; omega
    have hj : j < k := by
      have h2 := (List.getElem?_eq_some_iff.1 hu).1
      rw [List.getElem?_map] at hx
      cases hq : l[i]? with
      | none => rw [hq] at hx; simp at hx
      | some q => rw [hq] at hx; simp at hx; subst hx; rwa [hk] at h2
    rw [Nat.zero_add, cell_of_row w g _ cur e (0, 0) hg]
    rw [← ht, List.getElem?_take] at h1
    split at h1
    · simpa using h1
    · cases h1
/-- Rows in a block, none of their cells frozen. -/
def RowsIn (k : Nat) (w : World) (b : Nat) (xs : List (List Value)) : Prop := b < w.heap.size ∧ ∀ (i : Nat) (x : List Value), xs[i]? = some x → ∀ (j : Nat) (v : Value), x[j]? = some v → w.cell? ⟨b, i * k + j, none⟩ = some v ∧ w.frozen? ⟨b, i * k + j, none⟩ = false
theorem RowsIn.agree {k b : Nat} {w w' : World} {xs : List (List Value)} (h : RowsIn k w b xs) (hb : w'.heap[b]? = w.heap[b]?) (hs : w.heap.size ≤ w'.heap.size) : RowsIn k w' b xs :=
  ⟨Nat.lt_of_lt_of_le h.1 hs, fun i x hx j v hv => ⟨(World.cell?_of_block hb).trans (h.2 i x hx j v hv).1, (World.frozen?_of_block hb).trans (h.2 i x hx j v hv).2⟩⟩
theorem RowsIn.put {k b i j : Nat} {w : World} {xs : List (List Value)} {x : List Value} {v0 v : Value} (h : RowsIn k w b xs) (hx : xs[i]? = some x) (hj : x[j]? = some v0) (hk : ∀ y ∈ xs, y.length = k) : RowsIn k (w.setCell ⟨b, i * k + j, none⟩ v) b (xs.set i (x.set j v)) := by
  refine ⟨by simpa using h.1, fun i' x' hx' j' v' hv' => ?_⟩
  have hi : i < xs.length := (List.getElem?_eq_some_iff.1 hx).1
  have hjl := (List.getElem?_eq_some_iff.1 hj).1
  have hxk : x.length = k := hk x (List.mem_of_getElem? hx)
  obtain ⟨h3, h4⟩ := h.2 i x hx j v0 hj
  rw [List.getElem?_set] at hx'
  by_cases e : i = i'
  · subst e
    rw [if_pos rfl, if_pos hi] at hx'
    cases hx'
    rw [List.getElem?_set] at hv'
    by_cases e2 : j = j'
    · subst e2
      rw [if_pos rfl, if_pos hjl] at hv'
      cases hv'
      exact ⟨World.cell?_setCell_same w _ _ h3, by simpa using h4⟩
    · rw [if_neg e2] at hv'
      obtain ⟨h1, h2⟩ := h.2 i x hx j' v' hv'
      exact ⟨(World.cell?_setCell_other w _ _ _ (fun q => e2 (by have := congrArg Addr.off q; simp at this; omega))).trans h1, by simpa using h2⟩
  · rw [if_neg e] at hx'
    obtain ⟨h1, h2⟩ := h.2 i' x' hx' j' v' hv'
    have hx'k : x'.length = k := hk x' (List.mem_of_getElem? hx')
    have hj' := (List.getElem?_eq_some_iff.1 hv').1
    have hne : i * k + j ≠ i' * k + j' := by
      intro q
      rw [hxk] at hjl
      rw [hx'k] at hj'
      have h5 : (i * k + j) / k = i := by rw [Nat.mul_comm, Nat.mul_add_div (by omega), Nat.div_eq_of_lt hjl]; omega
      have h6 : (i' * k + j') / k = i' := by rw [Nat.mul_comm, Nat.mul_add_div (by omega), Nat.div_eq_of_lt hj']; omega
      rw [q, h6] at h5
      exact e h5.symm
    exact ⟨(World.cell?_setCell_other w _ _ _ (fun q => hne (by have := congrArg Addr.off q; simpa using this))).trans h1, by simpa using h2⟩
theorem Sl.at {k lo hi n : Nat} {w : World} {a : Option Addr} {xs : List (List Value)} (h : Sl k lo hi w a n xs) (hn : 0 < n) : ∃ b off, a = some ⟨b, off, none⟩ ∧ lo ≤ b ∧ b < hi ∧ At k w b off xs := h.2.resolve_left (by omega)
theorem set_get' {α : Type} {l : List α} {i j : Nat} {a b : α} (h : (l.set i a)[j]? = some b) : (i = j ∧ b = a) ∨ (i ≠ j ∧ l[j]? = some b) := by
  rw [List.getElem?_set] at h
  by_cases e : i = j
  · rw [if_pos e] at h
    split at h
    · cases h; exact .inl ⟨e, rfl⟩
    · cases h
  · rw [if_neg e] at h; exact .inr ⟨e, h⟩
theorem RowsIn.made {k : Nat} (w : World) (z : List Value) (n : Nat) (t : TypeId) (hz : z.length = k) : RowsIn k (w.alloc (.cells (madeCells z.toArray (n * k)) t)) w.heap.size (List.replicate n z) := by
  have hb : Box (w.alloc (.cells (madeCells z.toArray (n * k)) t)) w.heap.size t (madeCells z.toArray (n * k)).toList := by
    have := Box.new w t (madeCells z.toArray (n * k)).toList
    simpa using this
  refine ⟨by simp, fun i x hx j v hv => ⟨?_, hb.frozen _⟩⟩
  rw [hb.cell]
  rw [List.getElem?_replicate] at hx
  split at hx
  · next hi =>
    cases hx
    have hj : j < k := by have := (List.getElem?_eq_some_iff.1 hv).1; omega
    have h1 : i * k + j < n * k := by
      have : (i + 1) * k ≤ n * k := Nat.mul_le_mul_right k (by omega)
      rw [Nat.add_mul] at this; omega
    have h2 : (i * k + j) % k = j := by rw [Nat.mul_comm, Nat.mul_add_mod]; exact Nat.mod_eq_of_lt hj
    obtain ⟨_, h3⟩ := List.getElem?_eq_some_iff.1 hv
    simp [madeCells, h1, hz, h2]
    simp [List.getElem?_eq_getElem (show j < z.length by omega), h3]
  · cases hx
/-- A list with others in place from o on. -/
def setL (cs : List Value) (o : Nat) : List Value → List Value
  | [] => cs
  | v :: r => setL (cs.set o v) (o + 1) r
theorem setL_length : ∀ (vs cs : List Value) (o : Nat), (setL cs o vs).length = cs.length
  | [], _, _ => rfl
  | v :: r, cs, o => by show (setL (cs.set o v) (o + 1) r).length = _; rw [setL_length r, List.length_set]
theorem box_setCells {g : Nat} {t : TypeId} : ∀ (vs : List Value) {cs : List Value} {o : Nat} {w : World}, Box w g t cs → Box (w.setCells g o vs) g t (setL cs o vs)
  | [], _, _, _, h => h
  | v :: r, cs, o, w, h => by
    rw [World.setCells]
    exact box_setCells r (h.set o v)
theorem two_setCells {g b : Nat} {w : World} : ∀ (vs : List Value) {o : Nat} {w' : World}, Two g b w w' → Two g b w (w'.setCells g o vs)
  | [], _, _, h => h
  | v :: r, o, w', h => by
    rw [World.setCells]
    exact two_setCells r (h.setCell (p := ⟨g, o, none⟩) (.inl rfl) v)
theorem box_there {w : World} {g : Nat} {t : TypeId} {cs : List Value} (h : Box w g t cs) {o n : Nat} (hn : o + n ≤ cs.length) : w.there g o n := fun j hj => by
  rw [h.cell, h.frozen, List.getElem?_eq_getElem (by omega)]
  exact ⟨rfl, rfl⟩
/-- The store of a struct into a part of a block that is known whole: the world behind it, by what it holds. -/
theorem wpList_store_part {P : Program} {ops : Array Oper} {rest : List Oper} {op : Oper} {a : Act} {w : World} {Q : Exit → Act → World → Prop} (hgd : op.guard = none) (ty : TypeId) (x y : Operand) (ho : op.op = .store ty x y)
    (g o : Nat) (old vs new : List Value) (hx : a.eval x = .pointer (some ⟨g, o, none⟩)) (hy : a.eval y = .agg vs.toArray) (t : TypeId) (hg : Box w g t old) (hi : (P.info? ty).map (·.size) = some vs.length)
    (hle : o + vs.length ≤ old.length) (hn : setL old o vs = new) (h1 : ∀ v ∈ vs, v.oneCell' = true)
    (h : ∀ w', Box w' g t new → Two g g w w' → wpList P ops Q rest (a.put op.dst undef) w') : wpList P ops Q (op :: rest) a w := by
  subst hn
  refine wpList_store_mid hgd ty x y ho g o vs.toArray hx hy (by simpa using box_there hg hle) (by simpa using hi) (all_oneCell_toArray h1) ?_
  exact h _ (by simpa using box_setCells vs hg) (by simpa using two_setCells vs (Two.refl g g w))
/-- Rows in a block, one of them another one. -/
theorem RowsIn.put_row {k b i : Nat} {w : World} {xs : List (List Value)} {x vs : List Value} (h : RowsIn k w b xs) (hx : xs[i]? = some x) (hk : ∀ y ∈ xs, y.length = k) (hv : vs.length = k) : RowsIn k (w.setCells b (i * k) vs) b (xs.set i vs) ∧ w.there b (i * k) k := by
  have hi : i < xs.length := (List.getElem?_eq_some_iff.1 hx).1
  have hxk : x.length = k := hk x (List.mem_of_getElem? hx)
  have hth : w.there b (i * k) k := fun j hj => by
    obtain ⟨h1, h2⟩ := h.2 i x hx j (x[j]'(by omega)) (List.getElem?_eq_getElem (by omega))
    rw [h1, h2]; exact ⟨rfl, rfl⟩
  refine ⟨⟨?_, fun i' x' hx' j' v' hv' => ?_⟩, hth⟩
  · have := (two_setCells (g := b) (b := b) vs (o := i * k) (Two.refl b b w)).size
    have := h.1
    omega
  rw [World.frozen?_setCells]
  rw [List.getElem?_set] at hx'
  by_cases e : i = i'
  · subst e
    rw [if_pos rfl, if_pos hi] at hx'
    cases hx'
    have hj := (List.getElem?_eq_some_iff.1 hv').1
    obtain ⟨h1, h2⟩ := h.2 i x hx j' (x[j']'(by omega)) (List.getElem?_eq_getElem (by omega))
    refine ⟨?_, h2⟩
    rw [World.cell?_setCells_in b vs (i * k) w (fun q hq => (hth q (by omega)).1) j' hj, ← hv', List.getElem?_eq_getElem hj]
  · rw [if_neg e] at hx'
    obtain ⟨h1, h2⟩ := h.2 i' x' hx' j' v' hv'
    have hx'k : x'.length = k := hk x' (List.mem_of_getElem? hx')
    have hj' := (List.getElem?_eq_some_iff.1 hv').1
    refine ⟨?_, h2⟩
    rw [World.cell?_setCells_out b vs (i * k) w ⟨b, i' * k + j', none⟩ (fun _ _ => ?_)]
    · exact h1
    · show i' * k + j' < i * k ∨ i * k + vs.length ≤ i' * k + j'
      rw [hx'k] at hj'
      rw [hv]
      rcases Nat.lt_or_ge i' i with q | q
      · left
        have : (i' + 1) * k ≤ i * k := Nat.mul_le_mul_right k q
        rw [Nat.add_mul] at this
        omega
      · right
        have : (i + 1) * k ≤ i' * k := Nat.mul_le_mul_right k (by omega)
        rw [Nat.add_mul] at this
        omega
theorem wpList_store_wrow {P : Program} {ops : Array Oper} {rest : List Oper} {op : Oper} {a : Act} {w : World} {Q : Exit → Act → World → Prop} (hgd : op.guard = none) (ty : TypeId) (x y : Operand) (ho : op.op = .store ty x y)
    (k g i : Nat) (xs : List (List Value)) (x0 vs : List Value) (hx : a.eval x = .pointer (some ⟨g, i * k, none⟩)) (hy : a.eval y = .agg vs.toArray) (hg : RowsIn k w g xs) (hx0 : xs[i]? = some x0) (hk : ∀ y ∈ xs, y.length = k) (hv : vs.length = k) (hi : (P.info? ty).map (·.size) = some vs.length)
    (h1 : ∀ v ∈ vs, v.oneCell' = true)
    (h : ∀ w', RowsIn k w' g (xs.set i vs) → Two g g w w' → wpList P ops Q rest (a.put op.dst undef) w') : wpList P ops Q (op :: rest) a w := by
  obtain ⟨h2, h3⟩ := hg.put_row (vs := vs) hx0 hk hv
  refine wpList_store_mid hgd ty x y ho g (i * k) vs.toArray hx hy (by simpa [hv] using h3) (by simpa using hi) (all_oneCell_toArray h1) ?_
  exact h _ (by simpa using h2) (by simpa using two_setCells vs (Two.refl g g w))
/-- The store of a whole struct into a block of its own: the world behind it, by what it holds. -/
theorem wpList_store_box {P : Program} {ops : Array Oper} {rest : List Oper} {o : Oper} {a : Act} {w : World} {Q : Exit → Act → World → Prop} (hgd : o.guard = none) (ty : TypeId) (x y : Operand) (ho : o.op = .store ty x y)
    (g : Nat) (cells : List Value) (hx : a.eval x = .pointer (some ⟨g, 0, none⟩)) (hy : a.eval y = .agg cells.toArray) (t : TypeId) (old : List Value) (hg : Box w g t old) (hi : (P.info? ty).map (·.size) = some cells.length)
    (hold : old.length = cells.length) (h1 : ∀ v ∈ cells, v.oneCell' = true)
    (h : ∀ w', Box w' g t cells → Two g g w w' → wpList P ops Q rest (a.put o.dst undef) w') : wpList P ops Q (o :: rest) a w := by
  refine wpList_store_row hgd ty x y ho g cells.toArray hx hy t old.toArray hg (by simpa using hi) (by simpa using hold) (Array.all_eq_true_iff_forall_mem.2 (fun v hv => h1 v (by simpa using hv))) (h _ ?_ ?_)
  · exact setRow_heap w g _ _ t (0, 0) hg
  · refine ⟨?_, ?_, ?_, ?_, ?_⟩
    all_goals unfold World.setRow
    · rfl
    · rfl
    · rfl
    · simp
    · intro k hk h1 _
      simp [Array.getElem?_setIfInBounds, Array.getElem?_modify, Ne.symm h1]
theorem ownsRow_agree {w w' : World} {base n size : Nat} {e : TypeId} {v : Value} {xs : List Value} (h : w.ownsRow base e size v n xs) (hb : ∀ q, v.ownBlock = some q → w'.heap[q]? = w.heap[q]?) : w'.ownsRow base e size v n xs := by
  obtain ⟨h1, h2 | ⟨q, cap, cur, rfl, hb', hq, r⟩⟩ := h
  · exact ⟨h1, .inl h2⟩
  · exact ⟨h1, .inr ⟨q, cap, cur, rfl, hb', (hb q rfl).trans hq, r⟩⟩
theorem ownsRow_base {w : World} {base base' n size : Nat} {e : TypeId} {v : Value} {xs : List Value} (h : w.ownsRow base e size v n xs) (hb : base' ≤ base) : w.ownsRow base' e size v n xs := by
  obtain ⟨h1, h2 | ⟨q, cap, cur, h3, h4, r⟩⟩ := h
  · exact ⟨h1, .inl h2⟩
  · exact ⟨h1, .inr ⟨q, cap, cur, h3, by omega, r⟩⟩

end Go.Proofs.YtpfcpeljfgmjgaaDoor
