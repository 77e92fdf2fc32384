/- Contract of package play's start. Contract of package play's start: the walk. -/
import Derived.Test.YtpfcpeljfgmjgaaDoorZpa
import Derived.Test.YtpfcpeljfgmjgaaDoorPtasksz
import Derived.Deep.CutRange
namespace Go.Proofs.YtpfcpeljfgmjgaaDoor
open Go.RowKit
set_option linter.unusedVariables false
set_option linter.unusedSimpArgs false

/-- What a worker has yet to begin, in memory. -/
def Rest (lo hi : Nat) (w : World) (rv : Value) (os : List Opn) : Prop := ∃ a c, rv = .slice a os.length c ∧ os.length ≤ c ∧ Sl 10 lo hi w a os.length (os.map ocells)
theorem Rest.agree {lo hi : Nat} {w w' : World} {rv : Value} {os : List Opn} (h : Rest lo hi w rv os) (hb : ∀ b, lo ≤ b → b < hi → w'.heap[b]? = w.heap[b]?) : Rest lo hi w' rv os := by
  obtain ⟨a, c, h1, h0, h2⟩ := h
  exact ⟨a, c, h1, h0, h2.agree hb⟩
theorem Rest.mono {lo hi hi' : Nat} {w : World} {rv : Value} {os : List Opn} (h : Rest lo hi w rv os) (hh : hi ≤ hi') : Rest lo hi' w rv os := by
  obtain ⟨a, c, h1, h0, h2⟩ := h
  exact ⟨a, c, h1, h0, h2.mono (Nat.le_refl _) hh⟩
/-- The workers in memory. -/
def WRow (lo hi : Nat) (w : World) (B : Nat) (ws : List Wk) : Prop :=
  ∃ cs, RowsIn 13 w B cs ∧ cs.length = ws.length ∧ ∀ (i : Nat) (k : Wk), ws[i]? = some k → ∃ rv, cs[i]? = some (wcell k rv) ∧ Rest lo hi w rv k.left
theorem wcell_length (k : Wk) (rv : Value) : (wcell k rv).length = 13 := rfl
theorem WRow.len13 {ws : List Wk} {cs : List (List Value)} (hl : cs.length = ws.length) (h : ∀ (i : Nat) (k : Wk), ws[i]? = some k → ∃ rv, cs[i]? = some (wcell k rv)) : ∀ y ∈ cs, y.length = 13 := by
  intro y hy
  obtain ⟨i, hi, rfl⟩ := List.getElem_of_mem hy
  obtain ⟨rv, h1⟩ := h i _ (List.getElem?_eq_getElem (by omega))
  rw [List.getElem?_eq_getElem hi] at h1
  have := Option.some.inj h1
  rw [this]; rfl
theorem WRow.agree {lo hi B : Nat} {w w' : World} {ws : List Wk} (h : WRow lo hi w B ws) (hb : ∀ b, (b = B ∨ (lo ≤ b ∧ b < hi)) → w'.heap[b]? = w.heap[b]?) (hs : w.heap.size ≤ w'.heap.size) : WRow lo hi w' B ws := by
  obtain ⟨cs, h1, h2, h3⟩ := h
  refine ⟨cs, h1.agree (hb B (.inl rfl)) hs, h2, fun i k hk => ?_⟩
  obtain ⟨rv, h4, h5⟩ := h3 i k hk
  exact ⟨rv, h4, h5.agree fun b hl hh => hb b (.inr ⟨hl, hh⟩)⟩
theorem WRow.mono {lo hi hi' B : Nat} {w : World} {ws : List Wk} (h : WRow lo hi w B ws) (hh : hi ≤ hi') : WRow lo hi' w B ws := by
  obtain ⟨cs, h1, h2, h3⟩ := h
  refine ⟨cs, h1, h2, fun i k hk => ?_⟩
  obtain ⟨rv, h4, h5⟩ := h3 i k hk
  exact ⟨rv, h4, h5.mono hh⟩
/-- A worker's cells. -/
theorem WRow.get {lo hi B i : Nat} {w : World} {ws : List Wk} {k : Wk} (h : WRow lo hi w B ws) (hk : ws[i]? = some k) : ∃ a c, k.left.length ≤ c ∧ Sl 10 lo hi w a k.left.length (k.left.map ocells) ∧ ∀ j v, (wcell k (.slice a k.left.length c))[j]? = some v → w.cell? ⟨B, i * 13 + j, none⟩ = some v ∧ w.frozen? ⟨B, i * 13 + j, none⟩ = false := by
  obtain ⟨cs, h1, h2, h3⟩ := h
  obtain ⟨rv, h4, a, c, rfl, h0, h5⟩ := h3 i k hk
  exact ⟨a, c, h0, h5, fun j v hv => h1.2 i _ h4 j v hv⟩
/-- One cell of a worker is another one: what the row becomes. -/
def WPart (lo hi : Nat) (w : World) (B i : Nat) (ws : List Wk) (x : List Value) : Prop :=
  i < ws.length ∧ ∃ cs, RowsIn 13 w B cs ∧ cs.length = ws.length ∧ cs[i]? = some x ∧ x.length = 13 ∧ ∀ (j : Nat) (k : Wk), j ≠ i → ws[j]? = some k → ∃ rv, cs[j]? = some (wcell k rv) ∧ Rest lo hi w rv k.left
theorem WRow.part {lo hi B i : Nat} {w : World} {ws : List Wk} {k : Wk} (h : WRow lo hi w B ws) (hk : ws[i]? = some k) : ∃ a c, k.left.length ≤ c ∧ Sl 10 lo hi w a k.left.length (k.left.map ocells) ∧ WPart lo hi w B i ws (wcell k (.slice a k.left.length c)) := by
  obtain ⟨cs, h1, h2, h3⟩ := h
  obtain ⟨rv, h4, a, c, rfl, h0, h5⟩ := h3 i k hk
  exact ⟨a, c, h0, h5, (List.getElem?_eq_some_iff.1 hk).1, cs, h1, h2, h4, rfl, fun j q _ hq => h3 j q hq⟩
theorem WPart.agree {lo hi B i : Nat} {w w' : World} {ws : List Wk} {x : List Value} (h : WPart lo hi w B i ws x) (hb : ∀ b, (b = B ∨ (lo ≤ b ∧ b < hi)) → w'.heap[b]? = w.heap[b]?) (hs : w.heap.size ≤ w'.heap.size) : WPart lo hi w' B i ws x := by
  obtain ⟨h0, cs, h1, h2, h3, h4, h5⟩ := h
  refine ⟨h0, cs, h1.agree (hb B (.inl rfl)) hs, h2, h3, h4, fun j k hj hk => ?_⟩
  obtain ⟨rv, h6, h7⟩ := h5 j k hj hk
  exact ⟨rv, h6, h7.agree fun b hl hh => hb b (.inr ⟨hl, hh⟩)⟩
theorem WPart.mono {lo hi hi' B i : Nat} {w : World} {ws : List Wk} {x : List Value} (h : WPart lo hi w B i ws x) (hh : hi ≤ hi') : WPart lo hi' w B i ws x := by
  obtain ⟨h0, cs, h1, h2, h3, h4, h5⟩ := h
  refine ⟨h0, cs, h1, h2, h3, h4, fun j k hj hk => ?_⟩
  obtain ⟨rv, h6, h7⟩ := h5 j k hj hk
  exact ⟨rv, h6, h7.mono hh⟩
theorem WPart.cell {lo hi B i : Nat} {w : World} {ws : List Wk} {x : List Value} (h : WPart lo hi w B i ws x) (j : Nat) (v : Value) (hv : x[j]? = some v) : w.cell? ⟨B, i * 13 + j, none⟩ = some v ∧ w.frozen? ⟨B, i * 13 + j, none⟩ = false := by
  obtain ⟨h0, cs, h1, h2, h3, h4, h5⟩ := h
  exact h1.2 i x h3 j v hv
theorem WPart.put {lo hi B i j : Nat} {w : World} {ws : List Wk} {x : List Value} (h : WPart lo hi w B i ws x) (hB : B < lo ∨ hi ≤ B) (hj : j < 13) (v : Value) : WPart lo hi (w.setCell ⟨B, i * 13 + j, none⟩ v) B i ws (x.set j v) := by
  obtain ⟨h0, cs, h1, h2, h3, h4, h5⟩ := h
  have hk : ∀ y ∈ cs, y.length = 13 := by
    intro y hy
    obtain ⟨q, hq, rfl⟩ := List.getElem_of_mem hy
    by_cases e : q = i
    · subst e
      rw [List.getElem?_eq_getElem hq] at h3
      have := Option.some.inj h3
      rw [this]; exact h4
    · obtain ⟨rv, h6, _⟩ := h5 q _ e (List.getElem?_eq_getElem (by omega))
      rw [List.getElem?_eq_getElem hq] at h6
      have := Option.some.inj h6
      rw [this]; rfl
  refine ⟨h0, cs.set i (x.set j v), h1.put h3 (v0 := x[j]'(by omega)) (List.getElem?_eq_getElem (by omega)) hk, by simpa using h2, by rw [List.getElem?_set_self (by omega)], by simpa using h4, fun q k hq hk' => ?_⟩
  obtain ⟨rv, h6, h7⟩ := h5 q k hq hk'
  refine ⟨rv, by rw [List.getElem?_set_ne (Ne.symm hq)]; exact h6, h7.agree fun b hl hh => Below.heap_setCell w _ v b (by show b ≠ B; omega)⟩
theorem WPart.row {lo hi B i : Nat} {w : World} {ws : List Wk} {x : List Value} (h : WPart lo hi w B i ws x) {k : Wk} {rv : Value} (hx : x = wcell k rv) (hr : Rest lo hi w rv k.left) : WRow lo hi w B (ws.set i k) := by
  obtain ⟨h0, cs, h1, h2, h3, h4, h5⟩ := h
  refine ⟨cs, h1, by simpa using h2, fun j q hq => ?_⟩
  rcases set_get' hq with ⟨rfl, rfl⟩ | ⟨hne, hq⟩
  · exact ⟨rv, by rw [h3, hx], hr⟩
  · exact h5 j q (Ne.symm hne) hq

def wz : List Value := [.slice none 0 0, .int .i64 0, .int .i64 0, .int .i64 0, .int .i64 0, .int .i64 0, .int .i64 0, .int .i64 0, .int .i64 0, .bool false, .int .i64 0, .int .i64 0, .int .i64 0]
theorem wz_new : wcell (Wk.new []) (.slice none 0 0) = wz := rfl
theorem Tryd.pworkInfo : (Tryd.prog.info? 127).map (fun i => (i.zero, i.size, i.bytes)) = some (some (.agg #[.slice none 0 0, .int .i64 0, .int .i64 0, .int .i64 0, .int .i64 0, .int .i64 0, .int .i64 0, .int .i64 0, .int .i64 0, .bool false, .int .i64 0, .int .i64 0, .int .i64 0]), 13, 120) := by kernel_rfl

/-- What the workers wait for, behind so many scripts. -/
def wsTo (n : Nat) (ss : List (List O3)) (k : Nat) : List Wk := (ss.take k).map (fun s => Wk.new (valid n s)) ++ List.replicate (ss.length - k) (Wk.new [])
theorem wsTo_length (n : Nat) (ss : List (List O3)) (k : Nat) (h : k ≤ ss.length) : (wsTo n ss k).length = ss.length := by simp [wsTo]; omega
theorem wsTo_set (n : Nat) (ss : List (List O3)) (k : Nat) (s : List O3) (h : ss[k]? = some s) : (wsTo n ss k).set k (Wk.new (valid n s)) = wsTo n ss (k + 1) := by
  have hk := (List.getElem?_eq_some_iff.1 h).1
  unfold wsTo
  have e : ss.length - k = (ss.length - (k + 1)) + 1 := by omega
  have ht : ss.take (k + 1) = ss.take k ++ [s] := by rw [List.take_add_one, h]; rfl
  rw [ht, List.set_append_right _ _ (by simp; omega), e, List.replicate_succ]
  have e2 : k - ((ss.take k).map (fun s => Wk.new (valid n s))).length = 0 := by simp; omega
  rw [e2, List.set_cons_zero, List.map_append, List.append_assoc]
  rfl
theorem wsTo_get (n : Nat) (ss : List (List O3)) (k : Nat) (h : k < ss.length) : (wsTo n ss k)[k]? = some (Wk.new []) := by
  unfold wsTo
  rw [List.getElem?_append_right (by simp; omega), List.getElem?_replicate]
  rw [if_pos (by simp; omega)]
theorem wsTo_zero (n : Nat) (ss : List (List O3)) : wsTo n ss 0 = List.replicate ss.length (Wk.new []) := by simp [wsTo]
theorem wsTo_all (n : Nat) (ss : List (List O3)) : wsTo n ss ss.length = ss.map (fun s => Wk.new (valid n s)) := by simp [wsTo]

def waits (ws : List Wk) : List Bool := ws.map fun k => !k.left.isEmpty
def unders (ws : List Wk) : List Bool := ws.map (·.on)

/-- The game ahead of the first time. -/
structure PS (lo : Nat) (w : World) (G B gb cu : Nat) (psl : Value) (n : Nat) (ws : List Wk) : Prop where
  box : Box w G 77 [psl, .slice (some ⟨gb, 0, none⟩) n cu, .slice (some ⟨B, 0, none⟩) ws.length ws.length, .int .u64 (wd (waits ws) : Nat), .int .u64 0, .slice none 0 0, .int .i64 0]
  up : Own w gb (List.range n)
  rows : WRow lo w.heap.size w B ws
  gl : G < lo
  bl : B < lo
  ul : gb < lo
  gB : G ≠ B
  gu : G ≠ gb
  bu : B ≠ gb

end Go.Proofs.YtpfcpeljfgmjgaaDoor

namespace Go.Proofs.YtpfcpeljfgmjgaaDoor
open Go.RowKit
set_option linter.unusedVariables false
set_option linter.unusedSimpArgs false

/-- Behind the making of the game. -/
def SCut (w : World) (n W : Nat) (psl s5 : Value) (wx : World) : Prop := ∃ G B gb, s5 = .pointer (some ⟨G, 0, none⟩) ∧
  Box wx G 77 [psl, .slice (some ⟨gb, 0, none⟩) n n, .slice (some ⟨B, 0, none⟩) W W, .int .u64 0, .int .u64 0, .slice none 0 0, .int .i64 0] ∧
  Own wx gb (List.replicate n 0) ∧ RowsIn 13 wx B (List.replicate W wz) ∧ G ≠ B ∧ G ≠ gb ∧ B ≠ gb ∧ w.heap.size ≤ G ∧ w.heap.size ≤ B ∧ w.heap.size ≤ gb ∧ Below w.heap.size w wx

theorem Tryd.info3p : (Tryd.prog.info? 3).map (fun i => (i.zero, i.size, i.bytes)) = some (some (.int .i64 0), 1, 8) := by kernel_rfl

theorem own_made (w : World) (n : Nat) (t : TypeId) : Own (w.alloc (.cells (madeCells #[Value.int .i64 0] n) t)) w.heap.size (List.replicate n 0) := by
  have hb : Box (w.alloc (.cells (madeCells #[Value.int .i64 0] n) t)) w.heap.size t (madeCells #[Value.int .i64 0] n).toList := by
    have := Box.new w t (madeCells #[Value.int .i64 0] n).toList
    simpa using this
  rw [toList_madeCells_one] at hb
  refine ⟨by simp, fun i hi => ⟨?_, hb.frozen _⟩⟩
  rw [hb.cell]
  simp at hi
  simp [el, hi]

theorem RowsIn.alloc {k b : Nat} {w : World} {xs : List (List Value)} (h : RowsIn k w b xs) (o : Obj) : RowsIn k (w.alloc o) b xs := h.agree (Below.heap_alloc w o b h.1) (by simp)

theorem scut_a (w : World) (la lb : Nat) (psl : Value) (t1 t2 : TypeId) : SCut w la lb psl (.pointer (some ⟨w.heap.size + 1 + 1, 0, none⟩)) (((w.alloc (.cells (madeCells #[Value.int .i64 0] la) t1)).alloc (.cells (madeCells wz.toArray (lb * 13)) t2)).alloc (.cells #[psl, .slice (some ⟨w.heap.size, 0, none⟩) la la, .slice (some ⟨w.heap.size + 1, 0, none⟩) lb lb, .int .u64 0, .int .u64 0, .slice none 0 0, .int .i64 0] 77)).drew := by
  have b1 : Below w.heap.size w (w.alloc (.cells (madeCells #[Value.int .i64 0] la) t1)) := (Below.refl _ _).alloc (Nat.le_refl _) _
  have b2 := below_alloc b1 (Nat.le_refl _) (.cells (madeCells wz.toArray (lb * 13)) t2)
  have b3 := below_alloc b2 (Nat.le_refl _) (.cells #[psl, .slice (some ⟨w.heap.size, 0, none⟩) la la, .slice (some ⟨w.heap.size + 1, 0, none⟩) lb lb, .int .u64 0, .int .u64 0, .slice none 0 0, .int .i64 0] 77)
  have h2 := RowsIn.made (k := 13) (w.alloc (.cells (madeCells #[Value.int .i64 0] la) t1)) wz lb t2 rfl
  have h3 := Box.new ((w.alloc (.cells (madeCells #[Value.int .i64 0] la) t1)).alloc (.cells (madeCells wz.toArray (lb * 13)) t2)) 77 [psl, .slice (some ⟨w.heap.size, 0, none⟩) la la, .slice (some ⟨w.heap.size + 1, 0, none⟩) lb lb, .int .u64 0, .int .u64 0, .slice none 0 0, .int .i64 0]
  rw [World.size_alloc] at h2 h3
  rw [World.size_alloc] at h3
  exact ⟨_, w.heap.size + 1, w.heap.size, rfl, h3.drew, ((own_made w la t1).alloc _).alloc _, h2.alloc _, by omega, by omega, by omega, by omega, by omega, by omega, b3.drew⟩
theorem scut_b (w : World) (la lb : Nat) (psl : Value) (t1 t2 : TypeId) : SCut w la lb psl (.pointer (some ⟨w.heap.size + 1 + 1, 0, none⟩)) (((w.alloc (.cells (madeCells wz.toArray (lb * 13)) t2)).alloc (.cells (madeCells #[Value.int .i64 0] la) t1)).alloc (.cells #[psl, .slice (some ⟨w.heap.size + 1, 0, none⟩) la la, .slice (some ⟨w.heap.size, 0, none⟩) lb lb, .int .u64 0, .int .u64 0, .slice none 0 0, .int .i64 0] 77)).drew := by
  have b1 : Below w.heap.size w (w.alloc (.cells (madeCells wz.toArray (lb * 13)) t2)) := (Below.refl _ _).alloc (Nat.le_refl _) _
  have b2 := below_alloc b1 (Nat.le_refl _) (.cells (madeCells #[Value.int .i64 0] la) t1)
  have b3 := below_alloc b2 (Nat.le_refl _) (.cells #[psl, .slice (some ⟨w.heap.size + 1, 0, none⟩) la la, .slice (some ⟨w.heap.size, 0, none⟩) lb lb, .int .u64 0, .int .u64 0, .slice none 0 0, .int .i64 0] 77)
  have h1 := RowsIn.made (k := 13) w wz lb t2 rfl
  have h2 := own_made (w.alloc (.cells (madeCells wz.toArray (lb * 13)) t2)) la t1
  have h3 := Box.new ((w.alloc (.cells (madeCells wz.toArray (lb * 13)) t2)).alloc (.cells (madeCells #[Value.int .i64 0] la) t1)) 77 [psl, .slice (some ⟨w.heap.size + 1, 0, none⟩) la la, .slice (some ⟨w.heap.size, 0, none⟩) lb lb, .int .u64 0, .int .u64 0, .slice none 0 0, .int .i64 0]
  rw [World.size_alloc] at h2 h3
  rw [World.size_alloc] at h3
  exact ⟨_, w.heap.size, w.heap.size + 1, rfl, h3.drew, h2.alloc _, (h1.alloc _).alloc _, by omega, by omega, by omega, by omega, by omega, by omega, b3.drew⟩

section
variable {w w' : World} {b : Nat} {t : TypeId} {c0 c1 c2 c3 c4 c5 c6 : Value}
theorem Box.seven (h : Box w b t [c0, c1, c2, c3, c4, c5, c6]) : w.cell? ⟨b, 0, none⟩ = some c0 ∧ w.cell? ⟨b, 1, none⟩ = some c1 ∧ w.cell? ⟨b, 2, none⟩ = some c2 ∧ w.cell? ⟨b, 3, none⟩ = some c3 ∧ w.cell? ⟨b, 4, none⟩ = some c4 ∧ w.cell? ⟨b, 5, none⟩ = some c5 ∧ w.cell? ⟨b, 6, none⟩ = some c6 :=
  ⟨h.cell 0, h.cell 1, h.cell 2, h.cell 3, h.cell 4, h.cell 5, h.cell 6⟩
theorem Box.sevenf (h : Box w b t [c0, c1, c2, c3, c4, c5, c6]) : w.frozen? ⟨b, 0, none⟩ = false ∧ w.frozen? ⟨b, 1, none⟩ = false ∧ w.frozen? ⟨b, 2, none⟩ = false ∧ w.frozen? ⟨b, 3, none⟩ = false ∧ w.frozen? ⟨b, 4, none⟩ = false ∧ w.frozen? ⟨b, 5, none⟩ = false ∧ w.frozen? ⟨b, 6, none⟩ = false :=
  ⟨h.frozen 0, h.frozen 1, h.frozen 2, h.frozen 3, h.frozen 4, h.frozen 5, h.frozen 6⟩
end

theorem waits_to (n : Nat) (ss : List (List O3)) (k : Nat) (s : List O3) (h : ss[k]? = some s) : waits (wsTo n ss (k + 1)) = (waits (wsTo n ss k)).set k (!(valid n s).isEmpty) := by
  rw [← wsTo_set n ss k s h]
  unfold waits
  rw [List.map_set]
  rfl
theorem waits_get (n : Nat) (ss : List (List O3)) (k : Nat) (h : k < ss.length) : (waits (wsTo n ss k))[k]? = some false := by
  unfold waits
  rw [List.getElem?_map, wsTo_get n ss k h]; rfl
theorem set_same {α : Type} {l : List α} {i : Nat} {a : α} (h : l[i]? = some a) : l.set i a = l := by
  apply List.ext_getElem?
  intro j
  rw [List.getElem?_set]
  by_cases e : i = j
  · subst e; rw [if_pos rfl, h, if_pos (List.getElem?_eq_some_iff.1 h).1]
  · rw [if_neg e]

set_option maxRecDepth 100000 in
set_option maxHeartbeats 2000000 in
theorem start_any (a b : Option Addr) (la ca lb cb : Nat) (ss : List (List O3)) (w : World) {hi : Nat} (hs : Scr hi w b lb ss) (hhi : hi ≤ w.heap.size) (hm : la ≤ 4096) (hm2 : lb ≤ 64) (ho : opsN ss ≤ 4096) :
    Calls Tryd.prog 37 #[.slice a la ca, .slice b lb cb] w fun e w' => ∃ lo G B gb, e = .returned (.pointer (some ⟨G, 0, none⟩)) ∧ w.heap.size ≤ G ∧ w.heap.size ≤ B ∧ w.heap.size ≤ gb ∧ lo ≤ w'.heap.size ∧ PS lo w' G B gb la (.slice a la ca) la (ss.map fun s => Wk.new (valid la s)) ∧ Below w.heap.size w w' := by
  obtain ⟨i0, hi0, hz0, hz1, hz2⟩ := info_parts Tryd.info3p
  obtain ⟨i1, hi1, hy0, hy1, hy2⟩ := info_parts Tryd.pworkInfo
  obtain ⟨mk1, hmk1⟩ : ∃ m, m = madeCells #[Value.int .i64 0] la := ⟨_, rfl⟩
  obtain ⟨mk2, hmk2⟩ : ∃ m, m = madeCells wz.toArray (lb * 13) := ⟨_, rfl⟩
  have hmake1 : ∀ W, Sem.run Tryd.prog (Instr.makeSlice 22 (.int .i64 (la : Int)) (.int .i64 (la : Int))) W = .ok (.slice (some ⟨W.heap.size, 0, none⟩) la la) (W.alloc (.cells mk1 3)) := fun W => by
    have := run_makeSlice (P := Tryd.prog) (w := W) 22 3 i0 (.int .i64 0) Tryd.underlying22 hi0 hz0 .i64 .i64 (la : Int) (la : Int) (by omega) (Int.le_refl _) (by rw [hz1]; omega) (by rw [hz2]; omega) (by omega)
    rw [hz1] at this
    rw [hmk1]
    simpa [Value.cells] using this
  have hmake2 : ∀ W, Sem.run Tryd.prog (Instr.makeSlice 73 (.int .i64 (lb : Int)) (.int .i64 (lb : Int))) W = .ok (.slice (some ⟨W.heap.size, 0, none⟩) lb lb) (W.alloc (.cells mk2 127)) := fun W => by
    have := run_makeSlice (P := Tryd.prog) (w := W) 73 127 i1 _ Tryd.underlying73 hi1 hy0 .i64 .i64 (lb : Int) (lb : Int) (by omega) (Int.le_refl _) (by rw [hy1]; omega) (by rw [hy2]; omega) (by omega)
    rw [hy1] at this
    rw [hmk2]
    simpa [Value.cells, wz] using this
  have HMK1 := Lib.hid hmk1
  have HMK2 := Lib.hid hmk2
  have HS := Lib.hid hs
  have HO := Lib.hid ho
  clear hmk1 hmk2 hs ho
  go_enter Tryd.func37, Tryd.ntmps37
  go_wp2_with fail
  go_cut [5] from 10 to 18 (fun s5 wx => SCut w la lb (.slice a la ca) s5 wx)
  case first =>
    go_region
    all_goals (go_wp2_with fail; go_meet)
    · rw [HMK1.out, HMK2.out]; exact scut_a w la lb _ _ _
    · rw [HMK1.out, HMK2.out]; exact scut_b w la lb _ _ _
  case rest =>
    obtain ⟨G, B, gb, rfl, HBX, HOW, HRW, n1, n2, n3, l1, l2, l3, hb⟩ := hcut
    have HG := Lib.hid HBX
    have HW := Lib.hid HOW
    have HR := Lib.hid HRW
    have HB := Lib.hid hb
    have hG := HBX.lt
    obtain ⟨_, _, _, _, _, _, _⟩ := HBX.seven
    clear HBX HOW HRW hb hmake1 hmake2
    go_wp2_with fail
    go_loopw [24] (fun iv wr => ∃ (k : Nat) (p : List Nat), k ≤ la ∧ iv = .int .i64 (k : Int) ∧ p.length = la ∧ Hid (∀ i, i < k → el p i = i) ∧ Own wr gb p ∧ Two gb gb wc wr) (fun iv _ => la - (intOf iv).toNat)
    case atStart => exact ⟨0, _, Nat.zero_le _, rfl, by simp, fun i hi => absurd hi (Nat.not_lt_zero _), HW.out, Two.refl _ _ _⟩
    case round =>
      obtain ⟨k, p, hk, rfl, hpl, hp, ho, ht⟩ := hrel
      have HT := Lib.hid ht
      have HG2 := Lib.hid (ht.box HG.out n2 n2)
      have hG2 := HG2.out.lt
      obtain ⟨_, _, _, _, _, _, _⟩ := HG2.out.seven
      have hs := ht.size
      clear ht
      by_cases hlt : k < la
      · obtain ⟨c1, f1⟩ := ho.2 k (by omega)
        have hg1 := ho.1
        have HO2 := Lib.hid (ho.put (i := k) (v := k) (by omega))
        have hk0 : (0 : Int) ≤ (k : Int) := by omega
        have hk1 : (k : Int) < (la : Int) := by omega
        generalize el p k = z at c1
        clear ho
        go_wp2_with fail
        go_roundw
        case rel =>
          refine ⟨k + 1, _, by omega, by go_num, by simpa using hpl, fun i hi => ?_, HO2.out, HT.out.setCell (p := ⟨gb, k, none⟩) (.inl rfl) _⟩
          by_cases e : k = i
          · subst e; exact el_set_self (by omega)
          · rw [el_set_other e]; exact hp.out i (by omega)
        case measure => simp [intOf]; omega
      · obtain rfl : k = la := by omega
        have hpe : p = List.range k := ext_el (by simpa using hpl) fun i hi => by rw [hp.out i (by omega), el_range (by omega)]
        subst hpe
        have HO2 := Lib.hid ho
        have HR2 := Lib.hid (HR.out.agree (HT.out.block B HR.out.1 n3 n3) HT.out.size)
        have HB2 := Lib.hid (HB.out.trans (HT.out.below (Nat.le_trans l3 (by have := HW.out.1; omega)) l3 l3))
        have HSL : Hid (ss.length = lb) := HS.out.1
        obtain ⟨L0, hL0⟩ : ∃ L0, L0 = wr.heap.size := ⟨_, rfl⟩
        have gL : G < L0 := by have := HG2.out.lt; omega
        have bL : B < L0 := by have := HR2.out.1; omega
        have uL : gb < L0 := by have := HO2.out.1; omega
        have wL : w.heap.size ≤ L0 := by have := HB2.out.size; omega
        have HL0 := Lib.hid hL0
        clear ho hp hpl hL0
        go_wp2_with fail
        go_loopw [37] (fun iv wx => ∃ q : Nat, q ≤ lb ∧ iv = .int .i64 (q : Int) ∧ Hid (Box wx G 77 [.slice a k ca, .slice (some ⟨gb, 0, none⟩) k k, .slice (some ⟨B, 0, none⟩) lb lb, .int .u64 (wd (waits (wsTo k ss q)) : Nat), .int .u64 0, .slice none 0 0, .int .i64 0]) ∧ Hid (Own wx gb (List.range k)) ∧ Hid (WRow L0 wx.heap.size wx B (wsTo k ss q)) ∧ Below w.heap.size w wx ∧ L0 ≤ wx.heap.size) (fun iv _ => lb - (intOf iv).toNat)
        case atStart =>
          refine ⟨0, Nat.zero_le _, rfl, ?_, HO2.out, ?_, HB2.out, Nat.le_of_eq HL0.out⟩
          · have e : wd (waits (wsTo k ss 0)) = 0 := by rw [wsTo_zero]; unfold waits; rw [List.map_replicate]; exact wd_replicate_false _
            show Box _ _ _ _
            rw [e]; exact HG2.out
          · refine ⟨_, HR2.out, by rw [wsTo_zero, HSL.out]; simp, fun i q hq => ?_⟩
            rw [wsTo_zero, List.getElem?_replicate] at hq
            split at hq
            · cases hq
              refine ⟨.slice none 0 0, by rw [List.getElem?_replicate, if_pos (by rw [← HSL.out]; assumption)]; rfl, none, 0, rfl, Nat.le_refl _, rfl, .inl rfl⟩
            · cases hq
        case round =>
          obtain ⟨q, hq, rfl, HGX, HOX, HRX, hbx, hsx⟩ := hrel
          have hGx := HGX.out.lt
          obtain ⟨_, _, _, _, _, _, _⟩ := HGX.out.seven
          have fr3 := HGX.out.frozen 3
          by_cases hlq : q < lb
          · obtain ⟨bb, off, rfl, hbb, hc⟩ := HS.out.2.resolve_left (by omega)
            obtain ⟨s, hsq⟩ : ∃ s, ss[q]? = some s := ⟨_, List.getElem?_eq_getElem (by have := HSL.out; omega)⟩
            obtain ⟨a', c', h3, h4⟩ := hc q s hsq
            have hsl : s.length ≤ 4096 := by have := opsN_take ss q s hsq; have := opsN_le ss (q + 1); have := HO.out; omega
            have cS := (hbx.cell (p := ⟨bb, off + q, none⟩) (show bb < w.heap.size by omega)).trans h3
            have HT1 := Lib.hid (tasks_any a' s.length c' s k wr (h4.below hbx hhi) (Nat.le_trans hhi hbx.size) (by omega))
            have hbw : bb < wr.heap.size := by omega
            have HSQ := Lib.hid hsq
            have HWT := Lib.hid (waits_to k ss q s hsq)
            have hwg := waits_get k ss q (by have := HSL.out; omega)
            have hwl : (waits (wsTo k ss q)).length = lb := by unfold waits; rw [List.length_map, wsTo_length _ _ _ (by have := HSL.out; omega), HSL.out]
            have HWG := Lib.hid hwg
            have HWL := Lib.hid hwl
            have HBX := Lib.hid hbx
            have hq0 : (0 : Int) ≤ (q : Int) := by omega
            have hq1 : (q : Int) < (lb : Int) := by omega
            generalize s.length = m0 at *
            clear hc h3 h4 hsq hwg hwl hbx
            go_wp2_with fail
            refine (HT1.out).mono ?_
            rintro e w3 ⟨v, rfl, hown, hb3⟩
            obtain ⟨a2, c2, rfl, hcap2, hsl2⟩ := Sl.of_owns ocells_length hown rfl
            have s3 := hb3.size
            have HG3 := Lib.hid (HGX.out.below hb3)
            have hG3 := HG3.out.lt
            have HO3 := Lib.hid (HOX.out.below hb3 HOX.out.1)
            have HR3 : Hid (WRow L0 wr.heap.size w3 B (wsTo k ss q)) := HRX.out.agree (fun b hb' => hb3.block b (by rcases hb' with rfl | h <;> omega)) s3
            have HB3 := Lib.hid (HBX.out.trans (hb3.mono HBX.out.size))
            have hRest : Rest L0 w3.heap.size w3 (.slice a2 (valid k s).length c2) (valid k s) := ⟨_, _, rfl, hcap2, hsl2.mono hsx (Nat.le_refl _)⟩
            obtain ⟨a9, c9, _, _, hpart⟩ := WRow.part (HR3.out.mono s3) (wsTo_get k ss q (by have := HSL.out; omega))
            obtain ⟨_, fB⟩ := hpart.cell 0 _ rfl
            obtain ⟨cB, _⟩ := hpart.cell 0 _ rfl
            simp only [Nat.add_zero] at fB cB
            have bL3 : B < w3.heap.size := by omega
            have HPT := Lib.hid hpart
            have HRE := Lib.hid hRest
            obtain ⟨_, _, _, _, _, _, _⟩ := HG3.out.seven
            have fr3 := HG3.out.frozen 3
            have HWS := wsTo_set k ss q s HSQ.out
            have HWSS := Lib.hid HWS
            clear hown hb3 hsl2 hpart hRest HWS hcap2
            by_cases hv : (valid k s).length = 0
            · have hv1 : (valid k s).isEmpty = true := by simpa using List.eq_nil_of_length_eq_zero hv
              have HE : Hid (waits (wsTo k ss (q + 1)) = waits (wsTo k ss q)) := by show _ = _; rw [HWT.out, hv1]; exact set_same HWG.out
              have HV := Lib.hid hv
              rw [hv]
              clear hv hv1
              go_wp2_with fail
              go_roundw
              case rel =>
                have hr : Rest L0 w3.heap.size w3 (.slice a2 0 c2) (valid k s) := by have := HRE.out; rw [HV.out] at this; exact this
                refine ⟨q + 1, by omega, by go_num, ?_, HO3.out.setOther (a := ⟨B, q * 13, none⟩) (Ne.symm n3) _, ?_, HB3.out.setCell (p := ⟨B, q * 13, none⟩) l2 _, by simp; omega⟩
                · show Box _ _ _ _
                  rw [HE.out]; exact HG3.out.setOther (a := ⟨B, q * 13, none⟩) n1 _
                · show WRow _ _ _ _ _
                  rw [← HWSS.out, World.size_setCell]
                  exact (HPT.out.put (j := 0) (.inl bL) (by omega) (.slice a2 0 c2)).row (k := Wk.new (valid k s)) rfl (hr.agree fun b hl hh => Below.heap_setCell w3 _ _ b (by show b ≠ B; omega))
              case measure => simp [intOf]; omega
            · have hv1 : (valid k s).isEmpty = false := by cases h : valid k s with
                | nil => rw [h] at hv; exact absurd rfl hv
                | cons _ _ => rfl
              have HE : Hid (waits (wsTo k ss (q + 1)) = (waits (wsTo k ss q)).set q true) := by show _ = _; rw [HWT.out, hv1]; rfl
              have hv2 : 0 < (valid k s).length := by omega
              generalize hm1 : (valid k s).length = m1 at *
              have HM1 := Lib.hid hm1
              clear hv hv1 hm1
              go_wp2_with fail
              refine (with_any (waits (wsTo k ss q)) q _ (by rw [HWL.out]; exact hm2) (by rw [HWL.out]; exact hlq) _ rfl).mono ?_
              rintro e w' ⟨rfl, rfl⟩
              go_wp2_with fail
              go_roundw
              case rel =>
                refine ⟨q + 1, by omega, by go_num, ?_, (HO3.out.setOther (a := ⟨G, 3, none⟩) (Ne.symm n2) _).setOther (a := ⟨B, q * 13, none⟩) (Ne.symm n3) _, ?_, (HB3.out.setCell (p := ⟨G, 3, none⟩) l1 _).setCell (p := ⟨B, q * 13, none⟩) l2 _, by simp; omega⟩
                · show Box _ _ _ _
                  rw [HE.out]; exact (HG3.out.set 3 _).setOther (a := ⟨B, q * 13, none⟩) n1 _
                · show WRow _ _ _ _ _
                  rw [← HWSS.out, World.size_setCell, World.size_setCell]
                  have hp := HPT.out.agree (w' := w3.setCell ⟨G, 3, none⟩ (.int .u64 (wd ((waits (wsTo k ss q)).set q true) : Nat))) (fun b hb' => Below.heap_setCell w3 _ _ b (by show b ≠ G; rcases hb' with rfl | h <;> omega)) (by simp)
                  refine (hp.put (j := 0) (.inl bL) (by omega) (.slice a2 m1 c2)).row (k := Wk.new (valid k s)) rfl ((HRE.out.agree (w' := w3.setCell ⟨G, 3, none⟩ (.int .u64 (wd ((waits (wsTo k ss q)).set q true) : Nat))) fun b hl hh => Below.heap_setCell w3 _ _ b (by show b ≠ G; omega)).agree fun b hl hh => Below.heap_setCell _ _ _ b (by show b ≠ B; omega))
              case measure => simp [intOf]; omega
          · obtain rfl : q = lb := by omega
            go_wp2_with fail
            go_ret
            have e : wsTo k ss q = ss.map (fun s => Wk.new (valid k s)) := by rw [← HSL.out]; exact wsTo_all k ss
            have HGY := HGX.out
            have HRY := HRX.out
            rw [e] at HGY HRY
            have hl2 : (ss.map (fun s => Wk.new (valid k s))).length = q := by rw [List.length_map, HSL.out]
            exact ⟨L0, G, B, gb, rfl, l1, l2, l3, hsx, ⟨by rw [hl2]; exact HGY, HOX.out, HRY, gL, bL, uL, n1, n2, n3⟩, hbx⟩

end Go.Proofs.YtpfcpeljfgmjgaaDoor
