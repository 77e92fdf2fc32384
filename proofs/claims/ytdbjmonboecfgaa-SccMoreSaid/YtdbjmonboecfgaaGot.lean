/- Two rows of rows in memory, of which one's rows are laid once and the other's grow (SccMore). -/
import Derived.Test.YtdbjmonboecfgaaGom
namespace Go.Proofs.Ytdbjmonboecfgaa
open Go.RowKit Go.Maps
set_option linter.unusedVariables false
set_option linter.unusedSimpArgs false

theorem own_lowO {w : World} {base base' e size n : Nat} {v : Value} {xs : List Value} (h : w.ownsRow base e size v n xs) (hb : base' ≤ base) : w.ownsRow base' e size v n xs := by
  obtain ⟨h1, h2 | ⟨g, cap, cur, h2, h3, h4⟩⟩ := h
  · exact ⟨h1, .inl h2⟩
  · exact ⟨h1, .inr ⟨g, cap, cur, h2, by omega, h4⟩⟩
section
variable {w W w9 : World} {base : Nat} {v : Value} {vs : List Value} {rows : Gr}
/-- A row is laid in place of another, in memory that was not there before. -/
theorem Grd.lay (h : Grd w base v vs rows) {i o n cap : Nat} (hi : i < rows.length) (hv : v = .slice (some ⟨o, 0, none⟩) n cap) (hW : Below w.heap.size w W) {u : Value} {r : List Int} (hu : W.ownsRow w.heap.size 3 1 u r.length (intR r)) :
    Grd (W.setCell ⟨o, i, none⟩ u) base v (vs.set i u) (rows.set i r) := by
  subst hv
  have hlt := ownsRow_lo h.own o rfl
  have hs := hW.size
  have hfr := fun q hq => (ownsRow_lo hu q hq).1
  have h9 : W.ownsRow base 26 1 (.slice (some ⟨o, 0, none⟩) n cap) rows.length vs := ownsRow_below h.own hW
  have hn : n = rows.length := by
    obtain ⟨_, ⟨h2, _⟩ | ⟨g', cap', cur, h2, _⟩⟩ := h.own
    · cases h2
    · injection h2
  subst hn
  have hst := (h9.stored i u).1
  have hil : i < vs.length := by rw [h.len]; exact hi
  refine ⟨by rw [List.length_set]; exact hst, fun j hj => ?_, fun j hj q hq => ?_, fun j k hjk hj hk q hq => ?_⟩
  · rw [List.length_set] at hj
    by_cases e : i = j
    · subst e
      rw [vg_set_self hil, rowG_set_self hi]
      exact own_set (own_lowO hu (by omega)) (fun q hq e => by have := hfr q hq; have e2 : q = o := e; omega) _
    · rw [vg_set_other e, rowG_set_other e]
      refine own_agree (ownsRow_below (h.row j hj) hW) fun q hq => ?_
      exact Below.heap_setCell _ _ _ _ (fun e2 => h.ap j hj q hq (by rw [e2]; rfl))
  · rw [List.length_set] at hj
    by_cases e : i = j
    · subst e
      rw [vg_set_self hil] at hq
      have := hfr q hq
      intro e2
      have e3 : o = q := Option.some.inj e2
      omega
    · rw [vg_set_other e] at hq
      exact h.ap j hj q hq
  · rw [List.length_set] at hj hk
    by_cases e : i = j
    · subst e
      rw [vg_set_self hil] at hq
      rw [vg_set_other hjk]
      intro e2
      have := (ownsRow_lo (h.row k hk) q e2).2
      have := hfr q hq
      omega
    · rw [vg_set_other e] at hq
      by_cases e2 : i = k
      · subst e2
        rw [vg_set_self hil]
        intro e3
        have := (ownsRow_lo (h.row j hj) q hq).2
        have := hfr q e3
        omega
      · rw [vg_set_other e2]
        exact h.dj j k hjk hj hk q hq
end

structure Two (w : World) (o n : Nat) (hs bs : List Value) (h b : Gr) : Prop where
  gh : Grd w o (.slice (some ⟨o, 0, none⟩) n n) hs h
  gb : Grd w o (.slice (some ⟨o + 1, 0, none⟩) n n) bs b
  ah : ∀ i, i < h.length → ∀ q, (vg hs i).ownBlock = some q → q ≠ o + 1 ∧ ∀ j, j < b.length → (vg bs j).ownBlock ≠ some q
  ab : ∀ j, j < b.length → ∀ q, (vg bs j).ownBlock = some q → q ≠ o
theorem Two.below {w w' : World} {o n : Nat} {hs bs : List Value} {h b : Gr} (t : Two w o n hs bs h b) (hb : Below w.heap.size w w') : Two w' o n hs bs h b := ⟨t.gh.below hb, t.gb.below hb, t.ah, t.ab⟩
theorem Two.zero {w : World} {n : Nat} (hn : n ≤ 1000000) :
    Two ((w.alloc (.cells (List.replicate n (Value.slice none 0 0)).toArray 26)).alloc (.cells (List.replicate n (Value.slice none 0 0)).toArray 26)) w.heap.size n (List.replicate n (Value.slice none 0 0)) (List.replicate n (Value.slice none 0 0)) (List.replicate n []) (List.replicate n []) := by
  have hv : ∀ i, vg (List.replicate n (Value.slice none 0 0)) i = .slice none 0 0 := fun i => by
    unfold vg; rw [List.getD_eq_getElem?_getD, List.getElem?_replicate]; split <;> rfl
  have h2 := grd_made (w := w.alloc (.cells (List.replicate n (Value.slice none 0 0)).toArray 26)) hn
  rw [World.size_alloc] at h2
  refine ⟨(grd_made hn).below ((Below.refl _ _).alloc (Nat.le_refl _) _), ⟨own_lowO h2.own (by omega), fun i hi => own_lowO (h2.row i hi) (by omega), h2.ap, h2.dj⟩, fun i _ q hq => (by rw [hv] at hq; cases hq), fun j _ q hq => (by rw [hv] at hq; cases hq)⟩
theorem Two.seth {w W : World} {o n : Nat} {hs bs : List Value} {h b : Gr} (t : Two w o n hs bs h b) {i : Nat} (hi : i < h.length) (hW : Below w.heap.size w W) {u : Value} {r : List Int} (hu : W.ownsRow w.heap.size 3 1 u r.length (intR r)) :
    Two (W.setCell ⟨o, i, none⟩ u) o n (hs.set i u) bs (h.set i r) b := by
  have hlt := ownsRow_lo t.gb.own (o + 1) rfl
  have hfr := fun q hq => (ownsRow_lo hu q hq).1
  have hil : i < hs.length := by rw [t.gh.len]; exact hi
  refine ⟨t.gh.lay hi rfl hW hu, (t.gb.below hW).agree (fun q hq => Below.heap_setCell _ _ _ _ (fun e => ?_)) (fun j hj q hq => Below.heap_setCell _ _ _ _ (t.ab j hj q hq)), fun i' hi' q hq => ?_, t.ab⟩
  · have e2 : o + 1 = q := Option.some.inj hq
    have e3 : q = o := e
    omega
  · rw [List.length_set] at hi'
    by_cases e : i = i'
    · subst e
      rw [vg_set_self hil] at hq
      have := hfr q hq
      refine ⟨by omega, fun j hj e2 => ?_⟩
      have := (ownsRow_lo (t.gb.row j hj) q e2).2
      omega
    · rw [vg_set_other e] at hq
      exact t.ah i' hi' q hq
theorem Two.putb {w W w9 : World} {o n : Nat} {hs bs : List Value} {h b : Gr} (t : Two w o n hs bs h b) {j : Nat} (hj : j < b.length) (hW : Below w.heap.size w W) (hg : W.grownBy w9 (vg bs j).ownBlock) {g c : Nat} {r : List Int} (ho : w9.ownsRow o 3 1 (.slice (some ⟨g, 0, none⟩) r.length c) r.length (intR r)) (hat : (vg bs j).ownBlock = some g ∨ g = W.heap.size) :
    Two (w9.setCell ⟨o + 1, j, none⟩ (.slice (some ⟨g, 0, none⟩) r.length c)) o n hs (bs.set j (.slice (some ⟨g, 0, none⟩) r.length c)) h (b.set j r) := by
  have hlo := ownsRow_lo t.gh.own o rfl
  have hs' := hW.size
  have hjl : j < bs.length := by rw [t.gb.len]; exact hj
  have keep : ∀ {q : Nat}, q < w.heap.size → (vg bs j).ownBlock ≠ some q → w9.heap[q]? = w.heap[q]? := fun {q} hq hne => by
    rw [hg.block q (by omega) (fun e => hne e.symm), hW.block q hq]
  refine ⟨t.gh.agree (fun q hq => ?_) (fun i hi q hq => ?_), t.gb.put hj rfl hW hg ho hat, fun i hi q hq => ?_, fun j' hj' q hq => ?_⟩
  · have e : o = q := Option.some.inj hq
    subst e
    rw [Below.heap_setCell _ _ _ _ (show o ≠ o + 1 by omega)]
    exact keep hlo.2 (fun e => t.ab j hj o e rfl)
  · have h1 := t.ah i hi q hq
    rw [Below.heap_setCell _ _ _ _ h1.1]
    exact keep (ownsRow_lo (t.gh.row i hi) q hq).2 (h1.2 j hj)
  · have h1 := t.ah i hi q hq
    refine ⟨h1.1, fun j' hj' e2 => ?_⟩
    rw [List.length_set] at hj'
    by_cases e : j = j'
    · subst e
      rw [vg_set_self hjl] at e2
      have e3 : g = q := Option.some.inj e2
      rcases hat with p | p
      · exact h1.2 j hj (by rw [p, e3])
      · have := (ownsRow_lo (t.gh.row i hi) q hq).2; omega
    · rw [vg_set_other e] at e2
      exact h1.2 j' hj' e2
  · rw [List.length_set] at hj'
    by_cases e : j = j'
    · subst e
      rw [vg_set_self hjl] at hq
      have e3 : g = q := Option.some.inj hq
      rcases hat with p | p
      · exact t.ab j hj q (by rw [p, e3])
      · omega
    · rw [vg_set_other e] at hq
      exact t.ab j' hj' q hq
theorem Two.puth {w W w9 : World} {o n : Nat} {hs bs : List Value} {h b : Gr} (t : Two w o n hs bs h b) {j : Nat} (hj : j < h.length) (hW : Below w.heap.size w W) (hg : W.grownBy w9 (vg hs j).ownBlock) {g c : Nat} {r : List Int} (ho : w9.ownsRow o 3 1 (.slice (some ⟨g, 0, none⟩) r.length c) r.length (intR r)) (hat : (vg hs j).ownBlock = some g ∨ g = W.heap.size) :
    Grd (w9.setCell ⟨o, j, none⟩ (.slice (some ⟨g, 0, none⟩) r.length c)) o (.slice (some ⟨o, 0, none⟩) n n) (hs.set j (.slice (some ⟨g, 0, none⟩) r.length c)) (h.set j r) ∧ Grd (w9.setCell ⟨o, j, none⟩ (.slice (some ⟨g, 0, none⟩) r.length c)) o (.slice (some ⟨o + 1, 0, none⟩) n n) bs b := by
  have hlo := ownsRow_lo t.gb.own (o + 1) rfl
  have hs' := hW.size
  have keep : ∀ {q : Nat}, q < w.heap.size → (vg hs j).ownBlock ≠ some q → w9.heap[q]? = w.heap[q]? := fun {q} hq hne => by
    rw [hg.block q (by omega) (fun e => hne e.symm), hW.block q hq]
  refine ⟨t.gh.put hj rfl hW hg ho hat, t.gb.agree (fun q hq => ?_) (fun i hi q hq => ?_)⟩
  · have e : o + 1 = q := Option.some.inj hq
    subst e
    rw [Below.heap_setCell _ _ _ _ (show o + 1 ≠ o by omega)]
    exact keep hlo.2 (fun e => (t.ah j hj _ e).1 rfl)
  · rw [Below.heap_setCell _ _ _ _ (t.ab i hi q hq)]
    exact keep (ownsRow_lo (t.gb.row i hi) q hq).2 (fun e => (t.ah j hj q e).2 i hi hq)

end Go.Proofs.Ytdbjmonboecfgaa
