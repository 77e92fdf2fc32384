/- Contract of package play's start. -/
import Derived.Test.YtpdjmfkoahdhaaaDoorPtasks
namespace Go.Proofs.YtpdjmfkoahdhaaaDoor
open Go.RowKit
set_option linter.unusedVariables false
set_option linter.unusedSimpArgs false

theorem set_get' {α : Type} {l : List α} {i j : Nat} {a b : α} (h : (l.set i a)[j]? = some b) : (i = j ∧ b = a) ∨ (i ≠ j ∧ l[j]? = some b) := by
  rw [List.getElem?_set] at h
  by_cases e : i = j
  · rw [if_pos e] at h
    split at h
    · cases h; exact .inl ⟨e, rfl⟩
    · cases h
  · rw [if_neg e] at h; exact .inr ⟨e, h⟩

/-- What a worker has yet to begin, in memory. -/
def Rest (lo hi : Nat) (w : World) (rv : Value) (os : List Opn) : Prop := ∃ a c, rv = .slice a os.length c ∧ os.length ≤ c ∧ Sl 10 lo hi w a os.length (os.map ocells)
theorem Rest.agree {lo hi : Nat} {w w' : World} {rv : Value} {os : List Opn} (h : Rest lo hi w rv os) (hb : ∀ b, lo ≤ b → b < hi → w'.heap[b]? = w.heap[b]?) : Rest lo hi w' rv os := by
  obtain ⟨a, c, h1, h0, h2⟩ := h
  exact ⟨a, c, h1, h0, h2.agree hb⟩
theorem Rest.mono {lo hi hi' : Nat} {w : World} {rv : Value} {os : List Opn} (h : Rest lo hi w rv os) (hh : hi ≤ hi') : Rest lo hi' w rv os := by
  obtain ⟨a, c, h1, h0, h2⟩ := h
  exact ⟨a, c, h1, h0, h2.mono (Nat.le_refl _) hh⟩
/-- The workers in memory. -/
def WRow (lo hi : Nat) (w : World) (B : Nat) (ws : List Wk) : Prop :=
  ∃ cs, RowsIn 13 w B cs ∧ cs.length = ws.length ∧ ∀ (i : Nat) (k : Wk), ws[i]? = some k → ∃ rv, cs[i]? = some (wcell k rv) ∧ Rest lo hi w rv k.left
theorem wcell_length (k : Wk) (rv : Value) : (wcell k rv).length = 13 := rfl
theorem WRow.len13 {ws : List Wk} {cs : List (List Value)} (hl : cs.length = ws.length) (h : ∀ (i : Nat) (k : Wk), ws[i]? = some k → ∃ rv, cs[i]? = some (wcell k rv)) : ∀ y ∈ cs, y.length = 13 := by
  intro y hy
  obtain ⟨i, hi, rfl⟩ := List.getElem_of_mem hy
  obtain ⟨rv, h1⟩ := h i _ (List.getElem?_eq_getElem (by omega))
  rw [List.getElem?_eq_getElem hi] at h1
  have := Option.some.inj h1
  rw [this]; rfl
theorem WRow.agree {lo hi B : Nat} {w w' : World} {ws : List Wk} (h : WRow lo hi w B ws) (hb : ∀ b, (b = B ∨ (lo ≤ b ∧ b < hi)) → w'.heap[b]? = w.heap[b]?) (hs : w.heap.size ≤ w'.heap.size) : WRow lo hi w' B ws := by
  obtain ⟨cs, h1, h2, h3⟩ := h
  refine ⟨cs, h1.agree (hb B (.inl rfl)) hs, h2, fun i k hk => ?_⟩
  obtain ⟨rv, h4, h5⟩ := h3 i k hk
  exact ⟨rv, h4, h5.agree fun b hl hh => hb b (.inr ⟨hl, hh⟩)⟩
theorem WRow.mono {lo hi hi' B : Nat} {w : World} {ws : List Wk} (h : WRow lo hi w B ws) (hh : hi ≤ hi') : WRow lo hi' w B ws := by
  obtain ⟨cs, h1, h2, h3⟩ := h
  refine ⟨cs, h1, h2, fun i k hk => ?_⟩
  obtain ⟨rv, h4, h5⟩ := h3 i k hk
  exact ⟨rv, h4, h5.mono hh⟩
/-- A worker's cells. -/
theorem WRow.get {lo hi B i : Nat} {w : World} {ws : List Wk} {k : Wk} (h : WRow lo hi w B ws) (hk : ws[i]? = some k) : ∃ a c, k.left.length ≤ c ∧ Sl 10 lo hi w a k.left.length (k.left.map ocells) ∧ ∀ j v, (wcell k (.slice a k.left.length c))[j]? = some v → w.cell? ⟨B, i * 13 + j, none⟩ = some v ∧ w.frozen? ⟨B, i * 13 + j, none⟩ = false := by
  obtain ⟨cs, h1, h2, h3⟩ := h
  obtain ⟨rv, h4, a, c, rfl, h0, h5⟩ := h3 i k hk
  exact ⟨a, c, h0, h5, fun j v hv => h1.2 i _ h4 j v hv⟩
/-- One cell of a worker is another one: what the row becomes. -/
def WPart (lo hi : Nat) (w : World) (B i : Nat) (ws : List Wk) (x : List Value) : Prop :=
  i < ws.length ∧ ∃ cs, RowsIn 13 w B cs ∧ cs.length = ws.length ∧ cs[i]? = some x ∧ x.length = 13 ∧ ∀ (j : Nat) (k : Wk), j ≠ i → ws[j]? = some k → ∃ rv, cs[j]? = some (wcell k rv) ∧ Rest lo hi w rv k.left
theorem WRow.part {lo hi B i : Nat} {w : World} {ws : List Wk} {k : Wk} (h : WRow lo hi w B ws) (hk : ws[i]? = some k) : ∃ a c, k.left.length ≤ c ∧ Sl 10 lo hi w a k.left.length (k.left.map ocells) ∧ WPart lo hi w B i ws (wcell k (.slice a k.left.length c)) := by
  obtain ⟨cs, h1, h2, h3⟩ := h
  obtain ⟨rv, h4, a, c, rfl, h0, h5⟩ := h3 i k hk
  exact ⟨a, c, h0, h5, (List.getElem?_eq_some_iff.1 hk).1, cs, h1, h2, h4, rfl, fun j q _ hq => h3 j q hq⟩
theorem WPart.agree {lo hi B i : Nat} {w w' : World} {ws : List Wk} {x : List Value} (h : WPart lo hi w B i ws x) (hb : ∀ b, (b = B ∨ (lo ≤ b ∧ b < hi)) → w'.heap[b]? = w.heap[b]?) (hs : w.heap.size ≤ w'.heap.size) : WPart lo hi w' B i ws x := by
  obtain ⟨h0, cs, h1, h2, h3, h4, h5⟩ := h
  refine ⟨h0, cs, h1.agree (hb B (.inl rfl)) hs, h2, h3, h4, fun j k hj hk => ?_⟩
  obtain ⟨rv, h6, h7⟩ := h5 j k hj hk
  exact ⟨rv, h6, h7.agree fun b hl hh => hb b (.inr ⟨hl, hh⟩)⟩
theorem WPart.mono {lo hi hi' B i : Nat} {w : World} {ws : List Wk} {x : List Value} (h : WPart lo hi w B i ws x) (hh : hi ≤ hi') : WPart lo hi' w B i ws x := by
  obtain ⟨h0, cs, h1, h2, h3, h4, h5⟩ := h
  refine ⟨h0, cs, h1, h2, h3, h4, fun j k hj hk => ?_⟩
  obtain ⟨rv, h6, h7⟩ := h5 j k hj hk
  exact ⟨rv, h6, h7.mono hh⟩
theorem WPart.cell {lo hi B i : Nat} {w : World} {ws : List Wk} {x : List Value} (h : WPart lo hi w B i ws x) (j : Nat) (v : Value) (hv : x[j]? = some v) : w.cell? ⟨B, i * 13 + j, none⟩ = some v ∧ w.frozen? ⟨B, i * 13 + j, none⟩ = false := by
  obtain ⟨h0, cs, h1, h2, h3, h4, h5⟩ := h
  exact h1.2 i x h3 j v hv
theorem WPart.put {lo hi B i j : Nat} {w : World} {ws : List Wk} {x : List Value} (h : WPart lo hi w B i ws x) (hB : B < lo ∨ hi ≤ B) (hj : j < 13) (v : Value) : WPart lo hi (w.setCell ⟨B, i * 13 + j, none⟩ v) B i ws (x.set j v) := by
  obtain ⟨h0, cs, h1, h2, h3, h4, h5⟩ := h
  have hk : ∀ y ∈ cs, y.length = 13 := by
    intro y hy
    obtain ⟨q, hq, rfl⟩ := List.getElem_of_mem hy
    by_cases e : q = i
    · subst e
      rw [List.getElem?_eq_getElem hq] at h3
      have := Option.some.inj h3
      rw [this]; exact h4
    · obtain ⟨rv, h6, _⟩ := h5 q _ e (List.getElem?_eq_getElem (by omega))
      rw [List.getElem?_eq_getElem hq] at h6
      have := Option.some.inj h6
      rw [this]; rfl
  refine ⟨h0, cs.set i (x.set j v), h1.put h3 (v0 := x[j]'(by omega)) (List.getElem?_eq_getElem (by omega)) hk, by simpa using h2, by rw [List.getElem?_set_self (by omega)], by simpa using h4, fun q k hq hk' => ?_⟩
  obtain ⟨rv, h6, h7⟩ := h5 q k hq hk'
  refine ⟨rv, by rw [List.getElem?_set_ne (Ne.symm hq)]; exact h6, h7.agree fun b hl hh => Below.heap_setCell w _ v b (by show b ≠ B; omega)⟩
theorem WPart.row {lo hi B i : Nat} {w : World} {ws : List Wk} {x : List Value} (h : WPart lo hi w B i ws x) {k : Wk} {rv : Value} (hx : x = wcell k rv) (hr : Rest lo hi w rv k.left) : WRow lo hi w B (ws.set i k) := by
  obtain ⟨h0, cs, h1, h2, h3, h4, h5⟩ := h
  refine ⟨cs, h1, by simpa using h2, fun j q hq => ?_⟩
  rcases set_get' hq with ⟨rfl, rfl⟩ | ⟨hne, hq⟩
  · exact ⟨rv, by rw [h3, hx], hr⟩
  · exact h5 j q (Ne.symm hne) hq

theorem RowsIn.made {k : Nat} (w : World) (z : List Value) (n : Nat) (t : TypeId) (hz : z.length = k) : RowsIn k (w.alloc (.cells (madeCells z.toArray (n * k)) t)) w.heap.size (List.replicate n z) := by
  have hb : Box (w.alloc (.cells (madeCells z.toArray (n * k)) t)) w.heap.size t (madeCells z.toArray (n * k)).toList := by
    have := Box.new w t (madeCells z.toArray (n * k)).toList
    simpa using this
  refine ⟨by simp, fun i x hx j v hv => ⟨?_, hb.frozen _⟩⟩
  rw [hb.cell]
  rw [List.getElem?_replicate] at hx
  split at hx
  · next hi =>
    cases hx
    have hj : j < k := by have := (List.getElem?_eq_some_iff.1 hv).1; omega
    have h1 : i * k + j < n * k := by
      have : (i + 1) * k ≤ n * k := Nat.mul_le_mul_right k (by omega)
      rw [Nat.add_mul] at this; omega
    have h2 : (i * k + j) % k = j := by rw [Nat.mul_comm, Nat.mul_add_mod]; exact Nat.mod_eq_of_lt hj
    obtain ⟨_, h3⟩ := List.getElem?_eq_some_iff.1 hv
    simp [madeCells, h1, hz, h2]
    simp [List.getElem?_eq_getElem (show j < z.length by omega), h3]
  · cases hx

def wz : List Value := [.slice none 0 0, .int .i64 0, .int .i64 0, .int .i64 0, .int .i64 0, .int .i64 0, .int .i64 0, .int .i64 0, .int .i64 0, .bool false, .int .i64 0, .int .i64 0, .int .i64 0]
theorem wz_new : wcell (Wk.new []) (.slice none 0 0) = wz := rfl
theorem Tryd.pworkInfo : (Tryd.prog.info? 91).map (fun i => (i.zero, i.size, i.bytes)) = some (some (.agg #[.slice none 0 0, .int .i64 0, .int .i64 0, .int .i64 0, .int .i64 0, .int .i64 0, .int .i64 0, .int .i64 0, .int .i64 0, .bool false, .int .i64 0, .int .i64 0, .int .i64 0]), 13, 120) := by kernel_rfl

/-- What the workers wait for, behind so many scripts. -/
def wsTo (n : Nat) (ss : List (List O3)) (k : Nat) : List Wk := (ss.take k).map (fun s => Wk.new (valid n s)) ++ List.replicate (ss.length - k) (Wk.new [])
theorem wsTo_length (n : Nat) (ss : List (List O3)) (k : Nat) (h : k ≤ ss.length) : (wsTo n ss k).length = ss.length := by simp [wsTo]; omega
theorem wsTo_set (n : Nat) (ss : List (List O3)) (k : Nat) (s : List O3) (h : ss[k]? = some s) : (wsTo n ss k).set k (Wk.new (valid n s)) = wsTo n ss (k + 1) := by
  have hk := (List.getElem?_eq_some_iff.1 h).1
  unfold wsTo
  have e : ss.length - k = (ss.length - (k + 1)) + 1 := by omega
  have ht : ss.take (k + 1) = ss.take k ++ [s] := by rw [List.take_add_one, h]; rfl
  rw [ht, List.set_append_right _ _ (by simp; omega), e, List.replicate_succ]
  have e2 : k - ((ss.take k).map (fun s => Wk.new (valid n s))).length = 0 := by simp; omega
  rw [e2, List.set_cons_zero, List.map_append, List.append_assoc]
  rfl
theorem wsTo_get (n : Nat) (ss : List (List O3)) (k : Nat) (h : k < ss.length) : (wsTo n ss k)[k]? = some (Wk.new []) := by
  unfold wsTo
  rw [List.getElem?_append_right (by simp; omega), List.getElem?_replicate]
  rw [if_pos (by simp; omega)]
theorem wsTo_zero (n : Nat) (ss : List (List O3)) : wsTo n ss 0 = List.replicate ss.length (Wk.new []) := by simp [wsTo]
theorem wsTo_all (n : Nat) (ss : List (List O3)) : wsTo n ss ss.length = ss.map (fun s => Wk.new (valid n s)) := by simp [wsTo]

def waits (ws : List Wk) : List Bool := ws.map fun k => !k.left.isEmpty
def unders (ws : List Wk) : List Bool := ws.map (·.on)

/-- The game ahead of the first time. -/
structure PS (lo : Nat) (w : World) (G B gb cu : Nat) (psl : Value) (n : Nat) (ws : List Wk) : Prop where
  box : Box w G 69 [psl, .slice (some ⟨gb, 0, none⟩) n cu, .slice (some ⟨B, 0, none⟩) ws.length ws.length, .int .u64 (wd (waits ws) : Nat), .int .u64 0, .slice none 0 0, .int .i64 0]
  up : Own w gb (List.range n)
  rows : WRow lo w.heap.size w B ws
  gl : G < lo
  bl : B < lo
  ul : gb < lo
  gB : G ≠ B
  gu : G ≠ gb
  bu : B ≠ gb

end Go.Proofs.YtpdjmfkoahdhaaaDoor
