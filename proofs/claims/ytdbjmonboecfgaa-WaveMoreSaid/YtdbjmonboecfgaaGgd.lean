/- Rows of rows that grow, in memory of the call's own. -/
import Derived.Test.YtdbjmonboecfgaaGrr
namespace Go.Proofs.Ytdbjmonboecfgaa
open Go.RowKit Go.Maps
set_option linter.unusedVariables false
set_option linter.unusedSimpArgs false

def vg (vs : List Value) (i : Nat) : Value := vs.getD i (.slice none 0 0)
theorem vg_set_self {vs : List Value} {i : Nat} {u : Value} (h : i < vs.length) : vg (vs.set i u) i = u := by simp [vg, List.getD, h]
theorem vg_set_other {vs : List Value} {i j : Nat} {u : Value} (h : i ≠ j) : vg (vs.set i u) j = vg vs j := by simp [vg, List.getD, List.getElem?_set_ne h]
theorem vg_app {vs : List Value} {u : Value} {i : Nat} (h : i < vs.length) : vg (vs ++ [u]) i = vg vs i := by simp [vg, List.getD, List.getElem?_append_left h]
theorem vg_last {vs : List Value} {u : Value} {i : Nat} (h : i = vs.length) : vg (vs ++ [u]) i = u := by subst h; simp [vg, List.getD]
theorem rowG_set_self {g : Gr} {i : Nat} {r : List Int} (h : i < g.length) : rowG (g.set i r) i = r := by simp [rowG, List.getD, h]
theorem rowG_set_other {g : Gr} {i j : Nat} {r : List Int} (h : i ≠ j) : rowG (g.set i r) j = rowG g j := by simp [rowG, List.getD, List.getElem?_set_ne h]
theorem rowG_app {g : Gr} {r : List Int} {i : Nat} (h : i < g.length) : rowG (g ++ [r]) i = rowG g i := by simp [rowG, List.getD, List.getElem?_append_left h]
theorem rowG_last {g : Gr} {r : List Int} {i : Nat} (h : i = g.length) : rowG (g ++ [r]) i = r := by subst h; simp [rowG, List.getD]
theorem rowG_out {g : Gr} {i : Nat} (h : g.length ≤ i) : rowG g i = [] := by simp [rowG, List.getD, List.getElem?_eq_none h]
abbrev intR (r : List Int) : List Value := r.map (Value.int .i64)

structure Grd (w : World) (base : Nat) (v : Value) (vs : List Value) (rows : Gr) : Prop where
  own : w.ownsRow base 26 1 v rows.length vs
  row : ∀ i, i < rows.length → w.ownsRow base 3 1 (vg vs i) (rowG rows i).length (intR (rowG rows i))
  ap : ∀ i, i < rows.length → ∀ q, (vg vs i).ownBlock = some q → v.ownBlock ≠ some q
  dj : ∀ i j, i ≠ j → i < rows.length → j < rows.length → ∀ q, (vg vs i).ownBlock = some q → (vg vs j).ownBlock ≠ some q
section
variable {w w' W w9 : World} {base : Nat} {v : Value} {vs : List Value} {rows : Gr}
theorem Grd.len (h : Grd w base v vs rows) : vs.length = rows.length := by have := h.own.1; simpa using this
theorem Grd.below (h : Grd w base v vs rows) (hb : Below w.heap.size w w') : Grd w' base v vs rows := ⟨ownsRow_below h.own hb, fun i hi => ownsRow_below (h.row i hi) hb, h.ap, h.dj⟩
theorem Grd.drew (h : Grd w base v vs rows) : Grd w.drew base v vs rows := h.below (Below.refl _ w).drew
/-- Other memory is turned. -/
theorem Grd.agree (h : Grd w base v vs rows) (hb : ∀ q, v.ownBlock = some q → w'.heap[q]? = w.heap[q]?) (hr : ∀ i, i < rows.length → ∀ q, (vg vs i).ownBlock = some q → w'.heap[q]? = w.heap[q]?) : Grd w' base v vs rows :=
  ⟨own_agree h.own hb, fun i hi => own_agree (h.row i hi) (hr i hi), h.ap, h.dj⟩
theorem Grd.nil (w : World) (base : Nat) : Grd w base (.slice none 0 0) [] [] := ⟨World.ownsRow_nil _ _ _ _, fun i hi => by simp at hi, fun i hi => by simp at hi, fun i j _ hi => by simp at hi⟩
/-- A row that was appended to is laid in its place. -/
theorem Grd.put (h : Grd w base v vs rows) {i o n cap : Nat} (hi : i < rows.length) (hv : v = .slice (some ⟨o, 0, none⟩) n cap) (hW : Below w.heap.size w W) (hg : W.grownBy w9 (vg vs i).ownBlock) {g c : Nat} {r : List Int} (ho : w9.ownsRow base 3 1 (.slice (some ⟨g, 0, none⟩) r.length c) r.length (intR r)) (hat : (vg vs i).ownBlock = some g ∨ g = W.heap.size) :
    Grd (w9.setCell ⟨o, i, none⟩ (.slice (some ⟨g, 0, none⟩) r.length c)) base v (vs.set i (.slice (some ⟨g, 0, none⟩) r.length c)) (rows.set i r) := by
  subst hv
  have hlt := ownsRow_lo h.own o rfl
  have hs := hW.size
  have hog : o ≠ g := fun e => by
    rcases hat with q | q
    · exact h.ap i hi g q (by rw [← e]; rfl)
    · omega
  have keep : ∀ {q : Nat}, q < w.heap.size → (vg vs i).ownBlock ≠ some q → w9.heap[q]? = w.heap[q]? := fun {q} hq hne => by
    rw [hg.block q (by omega) (fun e => hne e.symm), hW.block q hq]
  have h9 : w9.ownsRow base 26 1 (.slice (some ⟨o, 0, none⟩) n cap) rows.length vs := own_agree h.own fun q hq => keep (ownsRow_lo h.own q hq).2 (fun e => h.ap i hi q e hq)
  have hn : n = rows.length := by
    obtain ⟨_, ⟨h2, _⟩ | ⟨g', cap', cur, h2, _⟩⟩ := h.own
    · cases h2
    · injection h2
  subst hn
  have hst := (h9.stored i (.slice (some ⟨g, 0, none⟩) r.length c)).1
  have hil : i < vs.length := by rw [h.len]; exact hi
  refine ⟨by rw [List.length_set]; exact hst, fun j hj => ?_, fun j hj q hq => ?_, fun j k hjk hj hk q hq => ?_⟩
  · rw [List.length_set] at hj
    by_cases e : i = j
    · subst e
      rw [vg_set_self hil, rowG_set_self hi]
      exact own_set ho (fun q hq => by cases hq; exact fun e => hog e.symm) _
    · rw [vg_set_other e, rowG_set_other e]
      refine own_agree (h.row j hj) fun q hq => ?_
      have hqo : q ≠ o := fun e2 => h.ap j hj q hq (by rw [e2]; rfl)
      rw [Below.heap_setCell _ _ _ _ hqo]
      exact keep (ownsRow_lo (h.row j hj) q hq).2 (h.dj j i (fun e2 => e e2.symm) hj hi q hq)
  · rw [List.length_set] at hj
    by_cases e : i = j
    · subst e
      rw [vg_set_self hil] at hq
      cases hq
      exact fun e2 => hog (Option.some.inj e2)
    · rw [vg_set_other e] at hq
      exact h.ap j hj q hq
  · rw [List.length_set] at hj hk
    by_cases e : i = j
    · subst e
      rw [vg_set_self hil] at hq
      cases hq
      rw [vg_set_other hjk]
      intro e2
      rcases hat with q | q
      · exact h.dj i k hjk hj hk g q e2
      · have := (ownsRow_lo (h.row k hk) g e2).2; omega
    · rw [vg_set_other e] at hq
      by_cases e2 : i = k
      · subst e2
        rw [vg_set_self hil]
        intro e3
        have e4 : g = q := Option.some.inj e3
        rcases hat with p | p
        · exact h.dj i j e hi hj g p (by rw [hq, e4])
        · have := (ownsRow_lo (h.row j hj) q hq).2; omega
      · rw [vg_set_other e2]
        exact h.dj j k hjk hj hk q hq
/-- A row more. -/
theorem Grd.push (h : Grd w base v vs rows) {u : Value} {r : List Int} (hu : w.ownsRow base 3 1 u r.length (intR r)) (hn : ∀ q, u.ownBlock = some q → v.ownBlock ≠ some q ∧ ∀ i, i < rows.length → (vg vs i).ownBlock ≠ some q) (hW : Below w.heap.size w W) (hg : W.grownBy w9 v.ownBlock) {o c : Nat}
    (ho : w9.ownsRow base 26 1 (.slice (some ⟨o, 0, none⟩) (rows.length + 1) c) (rows.length + 1) (vs ++ [u])) (hat : v.ownBlock = some o ∨ o = W.heap.size) : Grd w9 base (.slice (some ⟨o, 0, none⟩) (rows.length + 1) c) (vs ++ [u]) (rows ++ [r]) := by
  have hs := hW.size
  have keep : ∀ {q : Nat}, q < w.heap.size → v.ownBlock ≠ some q → w9.heap[q]? = w.heap[q]? := fun {q} hq hne => by
    rw [hg.block q (by omega) (fun e => hne e.symm), hW.block q hq]
  have hl := h.len
  have hno : ∀ {q : Nat}, q < w.heap.size → v.ownBlock ≠ some q → some o ≠ some q := fun {q} hq hne e => by
    have e := Option.some.inj e
    rcases hat with p | p
    · exact hne (by rw [p, e])
    · omega
  refine ⟨by rw [List.length_append]; exact ho, fun i hi => ?_, fun i hi q hq => ?_, fun i j hij hi hj q hq => ?_⟩
  · rw [List.length_append, List.length_singleton] at hi
    by_cases e : i < rows.length
    · rw [vg_app (by omega), rowG_app e]
      exact own_agree (h.row i e) fun q hq => keep (ownsRow_lo (h.row i e) q hq).2 (h.ap i e q hq)
    · rw [vg_last (by omega), rowG_last (by omega)]
      exact own_agree hu fun q hq => keep (ownsRow_lo hu q hq).2 (hn q hq).1
  · rw [List.length_append, List.length_singleton] at hi
    by_cases e : i < rows.length
    · rw [vg_app (by omega)] at hq
      exact hno (ownsRow_lo (h.row i e) q hq).2 (h.ap i e q hq)
    · rw [vg_last (by omega)] at hq
      exact hno (ownsRow_lo hu q hq).2 (hn q hq).1
  · rw [List.length_append, List.length_singleton] at hi hj
    by_cases e : i < rows.length
    · rw [vg_app (by omega)] at hq
      by_cases e2 : j < rows.length
      · rw [vg_app (by omega)]; exact h.dj i j hij e e2 q hq
      · rw [vg_last (by omega)]
        intro e3
        exact (hn q e3).2 i e hq
    · rw [vg_last (by omega)] at hq
      rw [vg_app (by omega)]
      exact (hn q hq).2 j (by omega)
/-- Rows of rows that are whole are read. -/
theorem own_row {w : World} {base e : Nat} {u : Value} {r : List Int} (h : w.ownsRow base e 1 u r.length (intR r)) : ∃ a c, u = .slice a r.length c ∧ Row 0 w.heap.size w a r.length r := by
  obtain ⟨a, c, h1, h2⟩ := RowF.of_owns (f := Value.int .i64) (d := (0 : Int)) h
  exact ⟨a, c, h1, h2.mono (Nat.zero_le _) (Nat.le_refl _)⟩
theorem Grd.read (h : Grd w base v vs rows) (hz : rows.length ≤ 1000000) (hr : ∀ i, (rowG rows i).length ≤ 1000000) : ∃ a c, v = .slice a rows.length c ∧ GI w.heap.size w a rows.length rows := by
  have hl := h.len
  rcases h.own.2 with ⟨h2, h3⟩ | ⟨g, cap, cur, h2, hb, hg, hn, hcap, hsz, ht⟩
  · exact ⟨none, 0, by rw [h2, h3], rfl, hz, hr, .inl h3⟩
  · refine ⟨_, _, h2, rfl, hz, hr, .inr ⟨g, 0, rfl, (Array.getElem?_eq_some_iff.1 hg).1, fun i hi => ?_⟩⟩
    obtain ⟨ai, ci, e1, e2⟩ := own_row (h.row i hi)
    refine ⟨ai, ci, ?_, e2⟩
    have hc := World.ownsRow.cells h.own (g := g) (by rw [h2]; rfl) i (vg vs i) (by simp [vg, List.getD, show i < vs.length by omega])
    rw [Addr.add_lit] at hc
    rw [Nat.zero_add, ← e1]
    simpa using hc
end

end Go.Proofs.Ytdbjmonboecfgaa
