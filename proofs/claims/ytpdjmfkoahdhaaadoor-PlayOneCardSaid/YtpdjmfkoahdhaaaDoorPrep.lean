/- How operations, scripts, workers, events lie in memory. -/
import Derived.Test.YtpdjmfkoahdhaaaDoorCops
import Derived.Test.YtpdjmfkoahdhaaaDoorPstep
import Derived.Test.YtpdjmfkoahdhaaaDoorPset
namespace Go.Proofs.YtpdjmfkoahdhaaaDoor
open Go.RowKit
set_option linter.unusedVariables false
set_option linter.unusedSimpArgs false

/-- An operation as three numbers. -/
abbrev O3 := Int × Int × Int
def o3 : O3 → List Value := fun q => [.int .i64 q.1, .int .i64 q.2.1, .int .i64 q.2.2]

/-- Cells of a list of k-celled things that lie from off on in block b. -/
def At (k : Nat) (w : World) (b off : Nat) (xs : List (List Value)) : Prop := ∀ (i : Nat) (x : List Value), xs[i]? = some x → ∀ (j : Nat) (v : Value), x[j]? = some v → w.cell? ⟨b, off + i * k + j, none⟩ = some v

theorem At.agree {k b off : Nat} {w w' : World} {xs : List (List Value)} (h : At k w b off xs) (hb : w'.heap[b]? = w.heap[b]?) : At k w' b off xs := fun i x hx j v hv => (World.cell?_of_block hb).trans (h i x hx j v hv)
theorem At.tail {k b off : Nat} {w : World} {x : List Value} {xs : List (List Value)} (h : At k w b off (x :: xs)) : At k w b (off + k) xs := fun i y hy j v hv => by
  have := h (i + 1) y (by simpa using hy) j v hv
  rwa [show off + (i + 1) * k + j = off + k + i * k + j by rw [Nat.add_mul]; omega] at this

/-- A slice of k-celled things, read in memory. -/
def Sl (k : Nat) (lo hi : Nat) (w : World) (a : Option Addr) (n : Nat) (xs : List (List Value)) : Prop :=
  xs.length = n ∧ (n = 0 ∨ ∃ b off, a = some ⟨b, off, none⟩ ∧ lo ≤ b ∧ b < hi ∧ At k w b off xs)
theorem Sl.agree {k lo hi n : Nat} {w w' : World} {a : Option Addr} {xs : List (List Value)} (h : Sl k lo hi w a n xs) (hb : ∀ b, lo ≤ b → b < hi → w'.heap[b]? = w.heap[b]?) : Sl k lo hi w' a n xs := by
  obtain ⟨h1, h2 | ⟨b, off, rfl, hl, hh, hc⟩⟩ := h
  · exact ⟨h1, .inl h2⟩
  · exact ⟨h1, .inr ⟨b, off, rfl, hl, hh, hc.agree (hb b hl hh)⟩⟩
theorem Sl.below {k lo hi n B : Nat} {w w' : World} {a : Option Addr} {xs : List (List Value)} (h : Sl k lo hi w a n xs) (hb : Below B w w') (hh : hi ≤ B) : Sl k lo hi w' a n xs := h.agree fun b _ hb' => hb.block b (by omega)
theorem Sl.mono {k lo hi lo' hi' n : Nat} {w : World} {a : Option Addr} {xs : List (List Value)} (h : Sl k lo hi w a n xs) (hl : lo' ≤ lo) (hh : hi ≤ hi') : Sl k lo' hi' w a n xs := by
  obtain ⟨h1, h2 | ⟨b, off, rfl, hlb, hbb, hc⟩⟩ := h
  · exact ⟨h1, .inl h2⟩
  · exact ⟨h1, .inr ⟨b, off, rfl, by omega, by omega, hc⟩⟩

abbrev OpsRow (lo hi : Nat) (w : World) (a : Option Addr) (n : Nat) (os : List O3) : Prop := Sl 3 lo hi w a n (os.map o3)
/-- Scripts: a slice of slices of operations. -/
def Scr (hi : Nat) (w : World) (a : Option Addr) (n : Nat) (ss : List (List O3)) : Prop :=
  ss.length = n ∧ (n = 0 ∨ ∃ b off, a = some ⟨b, off, none⟩ ∧ b < hi ∧ ∀ i s, ss[i]? = some s → ∃ a' c', w.cell? ⟨b, off + i, none⟩ = some (.slice a' s.length c') ∧ OpsRow 0 hi w a' s.length s)
theorem Scr.below {hi n B : Nat} {w w' : World} {a : Option Addr} {ss : List (List O3)} (h : Scr hi w a n ss) (hb : Below B w w') (hh : hi ≤ B) : Scr hi w' a n ss := by
  obtain ⟨h1, h2 | ⟨b, off, rfl, hb', hc⟩⟩ := h
  · exact ⟨h1, .inl h2⟩
  · refine ⟨h1, .inr ⟨b, off, rfl, hb', fun i s hs => ?_⟩⟩
    obtain ⟨a', c', h3, h4⟩ := hc i s hs
    exact ⟨a', c', (hb.cell (p := ⟨b, off + i, none⟩) (show b < B by omega)).trans h3, h4.below hb hh⟩

/-- Those operations that may begin. -/
def toOpn (q : O3) : Opn := ⟨q.1.toNat, q.2.1.toNat, q.2.2⟩
def valid (n : Nat) (os : List O3) : List Opn := (os.filter fun q => decide (okB q.1 q.2.1 q.2.2 n)).map toOpn
theorem okB_opn {n : Nat} {q : O3} (h : okB q.1 q.2.1 q.2.2 n) : (toOpn q).ok n ∧ ((toOpn q).k : Int) = q.1 ∧ ((toOpn q).x : Int) = q.2.1 ∧ (toOpn q).y = q.2.2 := by
  obtain ⟨h1, h2, h3, h4⟩ := h
  refine ⟨⟨?_, ?_, ?_, fun hk => ?_⟩, ?_, ?_, rfl⟩
  · show 1 ≤ q.1.toNat; omega
  · show q.1.toNat ≤ 3; omega
  · show q.2.1.toNat < n; omega
  · change q.1.toNat ≠ 1 at hk
    exact h4 (by omega)
  · show ((q.1.toNat : Nat) : Int) = q.1; omega
  · show ((q.2.1.toNat : Nat) : Int) = q.2.1; omega
theorem valid_ok {n : Nat} {os : List O3} : ∀ o ∈ valid n os, o.ok n := by
  intro o ho
  unfold valid at ho
  simp only [List.mem_map, List.mem_filter, decide_eq_true_eq] at ho
  obtain ⟨q, ⟨_, h⟩, rfl⟩ := ho
  exact (okB_opn h).1
theorem valid_snoc (n : Nat) (os : List O3) (q : O3) : valid n (os ++ [q]) = valid n os ++ if okB q.1 q.2.1 q.2.2 n then [toOpn q] else [] := by
  unfold valid
  rw [List.filter_append, List.map_append]
  by_cases h : okB q.1 q.2.1 q.2.2 n <;> simp [List.filter_cons, h]
theorem valid_length_le (n : Nat) (os : List O3) : (valid n os).length ≤ os.length := by
  unfold valid; rw [List.length_map]; exact List.length_filter_le _ _

/-- A task that has not begun. -/
def ocells (o : Opn) : List Value := [.int .i64 (o.k : Int), .int .i64 (o.x : Int), .int .i64 o.y, .int .i64 1, .int .i64 (o.x : Int), .int .i64 o.y, .int .i64 0, .int .i64 0, .bool false, .int .i64 0]
theorem ocells_tk {n : Nat} {o : Opn} (h : o.ok n) : ocells o = tcells o.tk o.y := by
  have hv : tV o.tk o.y = o.y := by
    unfold tV
    by_cases hk : o.k = 1
    · rw [if_pos (show o.tk.k = 1 from hk)]
    · rw [if_neg (show ¬ o.tk.k = 1 from hk)]
      have := h.2.2.2 hk
      show ((if o.k = 1 then 0 else o.y.toNat : Nat) : Int) = o.y
      rw [if_neg hk]; omega
  unfold tcells
  rw [hv]
  rfl
def cellsK (os : List Opn) : List Value := os.flatMap ocells
theorem ocells_length (o : Opn) : (ocells o).length = 10 := rfl
theorem ocells_one (o : Opn) : ∀ v ∈ ocells o, v.oneCell' = true := by
  intro v hv
  simp [ocells] at hv
  rcases hv with rfl | rfl | rfl | rfl | rfl | rfl | rfl | rfl | rfl | rfl <;> rfl
theorem cellsK_length : ∀ os : List Opn, (cellsK os).length = os.length * 10
  | [] => rfl
  | q :: r => by have := cellsK_length r; unfold cellsK at *; rw [List.flatMap_cons, List.length_append, this, ocells_length, List.length_cons]; omega
theorem cellsK_snoc (os : List Opn) (q : Opn) : cellsK (os ++ [q]) = cellsK os ++ ocells q := by
  unfold cellsK; simp [List.flatMap_append]

/-- A flat row of k-celled things, thing by thing. -/
theorem flat_at {α : Type} {k : Nat} {f : α → List Value} (hk : ∀ x, (f x).length = k) : ∀ (l : List α) (i : Nat) (x : List Value), (l.map f)[i]? = some x → ∀ (j : Nat) (v : Value), x[j]? = some v → (l.flatMap f)[i * k + j]? = some v
  | q :: r, 0, x, hx, j, v, hv => by
    simp at hx; subst hx
    have hj : j < k := by have := (List.getElem?_eq_some_iff.1 hv).1; rwa [hk] at this
    rw [List.flatMap_cons, List.getElem?_append_left (by rw [hk]; omega)]
    simpa using hv
  | q :: r, i + 1, x, hx, j, v, hv => by
    have ih := flat_at hk r i x (by simpa using hx) j v hv
    rw [List.flatMap_cons, List.getElem?_append_right (by rw [hk, Nat.add_mul]; omega), hk, ← ih]
    congr 1
    rw [Nat.add_mul]; omega
theorem flat_length {α : Type} {k : Nat} {f : α → List Value} (hk : ∀ x, (f x).length = k) : ∀ (l : List α), (l.flatMap f).length = l.length * k
  | [] => by simp
  | q :: r => by rw [List.flatMap_cons, List.length_append, hk, flat_length hk r, List.length_cons, Nat.add_mul]; omega
theorem Sl.of_owns {α : Type} {k base n : Nat} {e : TypeId} {f : α → List Value} (hk : ∀ x, (f x).length = k) {w : World} {v : Value} {l : List α} (h : w.ownsRow base e k v n (l.flatMap f)) (hl : l.length = n) : ∃ a c, v = .slice a n c ∧ n ≤ c ∧ Sl k base w.heap.size w a n (l.map f) := by
  obtain ⟨_, ⟨rfl, h0⟩ | ⟨g, cap, cur, rfl, hb, hg, hcap, _, hsz, ht⟩⟩ := h
  · exact ⟨none, 0, by rw [h0], by omega, by simpa using hl, .inl h0⟩
  · refine ⟨_, _, rfl, hcap, by simpa using hl, .inr ⟨g, 0, rfl, hb, (Array.getElem?_eq_some_iff.1 hg).1, fun i x hx j u hu => ?_⟩⟩
    have h1 := flat_at hk l i x hx j u hu
    have hi : i < n := by have := (List.getElem?_eq_some_iff.1 hx).1; simp at this; omega
    have hj : j < k := by
      have h2 := (List.getElem?_eq_some_iff.1 hu).1
      rw [List.getElem?_map] at hx
      cases hq : l[i]? with
      | none => rw [hq] at hx; simp at hx
      | some q => rw [hq] at hx; simp at hx; subst hx; rwa [hk] at h2
    rw [Nat.zero_add, cell_of_row w g _ cur e (0, 0) hg]
    rw [← ht, List.getElem?_take] at h1
    split at h1
    · simpa using h1
    · cases h1

/-! ### Workers: rows of 13 cells -/
def wcell (k : Wk) (rv : Value) : List Value := rv :: (tcells k.t k.y ++ [.int .i64 (k.bg : Int), .int .i64 (k.mt : Int)])
/-- Rows in a block, none of their cells frozen. -/
def RowsIn (k : Nat) (w : World) (b : Nat) (xs : List (List Value)) : Prop := b < w.heap.size ∧ ∀ (i : Nat) (x : List Value), xs[i]? = some x → ∀ (j : Nat) (v : Value), x[j]? = some v → w.cell? ⟨b, i * k + j, none⟩ = some v ∧ w.frozen? ⟨b, i * k + j, none⟩ = false
theorem RowsIn.agree {k b : Nat} {w w' : World} {xs : List (List Value)} (h : RowsIn k w b xs) (hb : w'.heap[b]? = w.heap[b]?) (hs : w.heap.size ≤ w'.heap.size) : RowsIn k w' b xs :=
  ⟨Nat.lt_of_lt_of_le h.1 hs, fun i x hx j v hv => ⟨(World.cell?_of_block hb).trans (h.2 i x hx j v hv).1, (World.frozen?_of_block hb).trans (h.2 i x hx j v hv).2⟩⟩
theorem RowsIn.put {k b i j : Nat} {w : World} {xs : List (List Value)} {x : List Value} {v0 v : Value} (h : RowsIn k w b xs) (hx : xs[i]? = some x) (hj : x[j]? = some v0) (hk : ∀ y ∈ xs, y.length = k) : RowsIn k (w.setCell ⟨b, i * k + j, none⟩ v) b (xs.set i (x.set j v)) := by
  refine ⟨by simpa using h.1, fun i' x' hx' j' v' hv' => ?_⟩
  have hi : i < xs.length := (List.getElem?_eq_some_iff.1 hx).1
  have hjl := (List.getElem?_eq_some_iff.1 hj).1
  have hxk : x.length = k := hk x (List.mem_of_getElem? hx)
  obtain ⟨h3, h4⟩ := h.2 i x hx j v0 hj
  rw [List.getElem?_set] at hx'
  by_cases e : i = i'
  · subst e
    rw [if_pos rfl, if_pos hi] at hx'
    cases hx'
    rw [List.getElem?_set] at hv'
    by_cases e2 : j = j'
    · subst e2
      rw [if_pos rfl, if_pos hjl] at hv'
      cases hv'
      exact ⟨World.cell?_setCell_same w _ _ h3, by simpa using h4⟩
    · rw [if_neg e2] at hv'
      obtain ⟨h1, h2⟩ := h.2 i x hx j' v' hv'
      exact ⟨(World.cell?_setCell_other w _ _ _ (fun q => e2 (by have := congrArg Addr.off q; simp at this; omega))).trans h1, by simpa using h2⟩
  · rw [if_neg e] at hx'
    obtain ⟨h1, h2⟩ := h.2 i' x' hx' j' v' hv'
    have hx'k : x'.length = k := hk x' (List.mem_of_getElem? hx')
    have hj' := (List.getElem?_eq_some_iff.1 hv').1
    have hne : i * k + j ≠ i' * k + j' := by
      intro q
      rw [hxk] at hjl
      rw [hx'k] at hj'
      have h5 : (i * k + j) / k = i := by rw [Nat.mul_comm, Nat.mul_add_div (by omega), Nat.div_eq_of_lt hjl]; omega
      have h6 : (i' * k + j') / k = i' := by rw [Nat.mul_comm, Nat.mul_add_div (by omega), Nat.div_eq_of_lt hj']; omega
      rw [q, h6] at h5
      exact e h5.symm
    exact ⟨(World.cell?_setCell_other w _ _ _ (fun q => hne (by have := congrArg Addr.off q; simpa using this))).trans h1, by simpa using h2⟩

/-- Events in memory. -/
def ecells (e : Ev) : List Value := [.int .i64 e.wk, .int .i64 e.k, .int .i64 e.x, .int .i64 e.y, .int .i64 e.res, .int .i64 e.bg, .int .i64 e.pl, .int .i64 e.en]
def cellsE (l : List Ev) : List Value := l.flatMap ecells
theorem ecells_length (e : Ev) : (ecells e).length = 8 := rfl
theorem ecells_one (e : Ev) : ∀ v ∈ ecells e, v.oneCell' = true := by
  intro v hv
  simp [ecells] at hv
  rcases hv with rfl | rfl | rfl | rfl | rfl | rfl | rfl | rfl <;> rfl
theorem cellsE_snoc (l : List Ev) (e : Ev) : cellsE (l ++ [e]) = cellsE l ++ ecells e := by unfold cellsE; simp [List.flatMap_append]
theorem cellsE_length (l : List Ev) : (cellsE l).length = l.length * 8 := flat_length ecells_length l

end Go.Proofs.YtpdjmfkoahdhaaaDoor
