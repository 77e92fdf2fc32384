/- Package scc: what a store makes of the walk's memory. -/
import Derived.Test.YtdbjmonboecfgaaGbg
namespace Go.Proofs.Ytdbjmonboecfgaa
open Go.RowKit Go.Maps
set_option linter.unusedVariables false
set_option linter.unusedSimpArgs false

section
variable {c : WB} {w w' : World} {wv ov : Value} {k : Nat} {G : Nat → Nat → Nat} {s : St}
theorem own_set {base e size n : Nat} {v : Value} {xs : List Value} (h : w.ownsRow base e size v n xs) {a : Addr} (ha : ∀ q, v.ownBlock = some q → q ≠ a.block) (u : Value) : (w.setCell a u).ownsRow base e size v n xs :=
  own_agree h fun q hq => Below.heap_setCell _ _ _ _ (ha q hq)
theorem WK.lo (h : WK c w wv ov k G s) : c.base ≤ c.b ∧ c.base ≤ c.mb ∧ c.base ≤ c.cb ∧ c.base ≤ c.eb ∧ c.base ≤ c.fb := by
  have := h.ap.lo
  exact ⟨this _ (by simp), this _ (by simp), this _ (by simp), this _ (by simp), this _ (by simp)⟩
theorem WK.wne (h : WK c w wv ov k G s) {q : Nat} (hq : q ∈ c.l) : (∀ p, wv.ownBlock = some p → p ≠ q) ∧ ∀ p, ov.ownBlock = some p → p ≠ q :=
  ⟨fun p hp e => h.ap.aw p hp (e ▸ hq), fun p hp e => h.ap.ao p hp (e ▸ hq)⟩
theorem WK.st_cnt (h : WK c w wv ov k G s) (v : Nat) : WK c (w.setCell ⟨c.b, 4, none⟩ (.int .i64 (v : Int))) wv ov k G { s with cnt := v } := by
  obtain ⟨a1, a2, a3, a4, a5, a6, a7, a8, a9, a10⟩ := h.ap.ne
  have hn := h.wne (q := c.b) (by simp)
  exact ⟨h.box.set 4 _, own_set h.way hn.1 _, own_set h.op hn.2 _, h.cm.setOther (Ne.symm a2) _, h.er.setOther (Ne.symm a3) _, h.fs.setOther (Ne.symm a4) _, h.mp.agree (Below.heap_setCell _ _ _ _ (Ne.symm a1)), h.ap⟩
theorem WK.st_cm (h : WK c w wv ov k G s) (x v : Nat) : WK c (w.setCell ⟨c.cb, x, none⟩ (.int .i64 (v : Int))) wv ov k G { s with cm := s.cm.set x v } := by
  obtain ⟨a1, a2, a3, a4, a5, a6, a7, a8, a9, a10⟩ := h.ap.ne
  have hn := h.wne (q := c.cb) (by simp)
  refine ⟨h.box.setOther a2 _, own_set h.way hn.1 _, own_set h.op hn.2 _, ?_, h.er.setOther (Ne.symm a8) _, h.fs.setOther (Ne.symm a9) _, h.mp.agree (Below.heap_setCell _ _ _ _ a5), h.ap⟩
  show Box _ _ _ (intsOf (s.cm.set x v))
  rw [← intsOf_set]
  exact h.cm.set x _
theorem WK.st_er (h : WK c w wv ov k G s) (x v : Nat) : WK c (w.setCell ⟨c.eb, x, none⟩ (.int .i64 (v : Int))) wv ov k G { s with er := s.er.set x v } := by
  obtain ⟨a1, a2, a3, a4, a5, a6, a7, a8, a9, a10⟩ := h.ap.ne
  have hn := h.wne (q := c.eb) (by simp)
  refine ⟨h.box.setOther a3 _, own_set h.way hn.1 _, own_set h.op hn.2 _, h.cm.setOther a8 _, ?_, h.fs.setOther (Ne.symm a10) _, h.mp.agree (Below.heap_setCell _ _ _ _ a6), h.ap⟩
  show Box _ _ _ (intsOf (s.er.set x v))
  rw [← intsOf_set]
  exact h.er.set x _
theorem WK.st_fs (h : WK c w wv ov k G s) (x v : Nat) : WK c (w.setCell ⟨c.fb, x, none⟩ (.int .i64 (v : Int))) wv ov k G { s with fs := s.fs.set x v } := by
  obtain ⟨a1, a2, a3, a4, a5, a6, a7, a8, a9, a10⟩ := h.ap.ne
  have hn := h.wne (q := c.fb) (by simp)
  refine ⟨h.box.setOther a4 _, own_set h.way hn.1 _, own_set h.op hn.2 _, h.cm.setOther a9 _, h.er.setOther a10 _, ?_, h.mp.agree (Below.heap_setCell _ _ _ _ a7), h.ap⟩
  show Box _ _ _ (intsOf (s.fs.set x v))
  rw [← intsOf_set]
  exact h.fs.set x _
/-- The map alone is turned. -/
theorem WK.st_mp (h : WK c w wv ov k G s) (hg : w.grownBy w' (some c.mb)) {k' : Nat} {G' : Nat → Nat → Nat} (hm : EM w' c.mb k' G') : WK c w' wv ov k' G' s := by
  obtain ⟨a1, a2, a3, a4, a5, a6, a7, a8, a9, a10⟩ := h.ap.ne
  have hn := h.wne (q := c.mb) (by simp)
  have ne : ∀ {b : Nat}, b ≠ c.mb → some b ≠ some c.mb := fun h e => h (Option.some.inj e)
  have own : ∀ {e n : Nat} {v : Value} {xs : List Value}, w.ownsRow c.base e 1 v n xs → (∀ p, v.ownBlock = some p → p ≠ c.mb) → w'.ownsRow c.base e 1 v n xs := fun ho hp =>
    own_agree ho fun q hq => hg.block q (ownsRow_lo ho q hq).2 (ne (hp q hq))
  exact ⟨h.box.grown hg (ne a1), own h.way hn.1, own h.op hn.2, h.cm.grown hg (ne (Ne.symm a5)), h.er.grown hg (ne (Ne.symm a6)), h.fs.grown hg (ne (Ne.symm a7)), hm, h.ap⟩
/-- A row, one shorter. -/
theorem own_pop {base e n cap g : Nat} {xs : List Value} {u : Value} (h : w.ownsRow base e 1 (.slice (some ⟨g, 0, none⟩) (n + 1) cap) (n + 1) (xs ++ [u])) (hl : xs.length = n) : w.ownsRow base e 1 (.slice (some ⟨g, 0, none⟩) n cap) n xs := by
  obtain ⟨h1, ⟨h2, _⟩ | ⟨g', cap', cur, h2, hb, hg, hn, hcap, hsz, ht⟩⟩ := h
  · cases h2
  · cases h2
    refine ⟨by simp [hl], .inr ⟨g, cap, cur, rfl, hb, hg, by omega, hcap, hsz, ?_⟩⟩
    have : cur.toList.take (n * 1) = (cur.toList.take ((n + 1) * 1)).take (n * 1) := by rw [List.take_take]; congr 1; omega
    rw [this, ht]
    simp [hl]
theorem WK.st_way (h : WK c w wv ov k G s) {g n cap : Nat} (hw : wv = .slice (some ⟨g, 0, none⟩) (n + 1) cap) {q : Nat × Nat} {r : List (Nat × Nat)} (hr : s.way = q :: r) : WK c (w.setCell ⟨c.b, 1, none⟩ (.slice (some ⟨g, 0, none⟩) n cap)) (.slice (some ⟨g, 0, none⟩) n cap) ov k G { s with way := r } := by
  subst hw
  obtain ⟨a1, a2, a3, a4, a5, a6, a7, a8, a9, a10⟩ := h.ap.ne
  have hn := h.wne (q := c.b) (by simp)
  have hwy := h.way
  have hlen : n + 1 = s.way.length := by
    obtain ⟨_, ⟨h2, _⟩ | ⟨g', cap', cur, h2, _⟩⟩ := hwy
    · cases h2
    · injection h2
  have hrl : r.length = n := by rw [hr] at hlen; simpa using hlen.symm
  unfold St.W at hwy
  rw [← hlen, hr, List.map_cons, List.reverse_cons] at hwy
  have e : intsOf ((r.map Prod.fst).reverse ++ [q.1]) = intsOf (r.map Prod.fst).reverse ++ [.int .i64 (q.1 : Int)] := by simp [intsOf]
  rw [e] at hwy
  have hp := own_pop hwy (by simp [intsOf, hrl])
  refine ⟨h.box.set 1 _, ?_, own_set h.op hn.2 _, h.cm.setOther (Ne.symm a2) _, h.er.setOther (Ne.symm a3) _, h.fs.setOther (Ne.symm a4) _, h.mp.agree (Below.heap_setCell _ _ _ _ (Ne.symm a1)), ⟨h.ap.nd, h.ap.lo, h.ap.aw, h.ap.ao, h.ap.wo⟩⟩
  show World.ownsRow _ _ _ _ _ r.length _
  rw [hrl]
  exact own_set hp (fun p hp' => hn.1 p hp') _
theorem WK.st_op (h : WK c w wv ov k G s) {g n cap : Nat} (hw : ov = .slice (some ⟨g, 0, none⟩) (n + 1) cap) {q : Nat} {r : List Nat} (hr : s.op = q :: r) : WK c (w.setCell ⟨c.b, 3, none⟩ (.slice (some ⟨g, 0, none⟩) n cap)) wv (.slice (some ⟨g, 0, none⟩) n cap) k G { s with op := r } := by
  subst hw
  obtain ⟨a1, a2, a3, a4, a5, a6, a7, a8, a9, a10⟩ := h.ap.ne
  have hn := h.wne (q := c.b) (by simp)
  have hwy := h.op
  have hlen : n + 1 = s.op.length := by
    obtain ⟨_, ⟨h2, _⟩ | ⟨g', cap', cur, h2, _⟩⟩ := hwy
    · cases h2
    · injection h2
  have hrl : r.length = n := by rw [hr] at hlen; simpa using hlen.symm
  rw [← hlen, hr, List.reverse_cons] at hwy
  have e : intsOf (r.reverse ++ [q]) = intsOf r.reverse ++ [.int .i64 (q : Int)] := by simp [intsOf]
  rw [e] at hwy
  have hp := own_pop hwy (by simp [intsOf, hrl])
  refine ⟨h.box.set 3 _, own_set h.way hn.1 _, ?_, h.cm.setOther (Ne.symm a2) _, h.er.setOther (Ne.symm a3) _, h.fs.setOther (Ne.symm a4) _, h.mp.agree (Below.heap_setCell _ _ _ _ (Ne.symm a1)), ⟨h.ap.nd, h.ap.lo, h.ap.aw, h.ap.ao, h.ap.wo⟩⟩
  show World.ownsRow _ _ _ _ _ r.length _
  rw [hrl]
  exact own_set hp (fun p hp' => hn.2 p hp') _
/-- A node is put at the end of the way, and of the open ones. -/
theorem WK.st_push (h : WK c w wv ov k G s) {W W9 W2 W10 : World} {x g1 c1 g2 c2 : Nat} (hW : Below w.heap.size w W) (hg : W.grownBy W9 wv.ownBlock) (ho : W9.ownsRow c.base 3 1 (.slice (some ⟨g1, 0, none⟩) (s.way.length + 1) c1) (s.way.length + 1) (intsOf s.W.reverse ++ [.int .i64 (x : Int)])) (hat : wv.ownBlock = some g1 ∨ g1 = W.heap.size)
    (hW2 : Below W9.heap.size W9 W2) (hg2 : W2.grownBy W10 ov.ownBlock) (ho2 : W10.ownsRow c.base 3 1 (.slice (some ⟨g2, 0, none⟩) (s.op.length + 1) c2) (s.op.length + 1) (intsOf s.op.reverse ++ [.int .i64 (x : Int)])) (hat2 : ov.ownBlock = some g2 ∨ g2 = W2.heap.size) :
    WK c ((W10.setCell ⟨c.b, 1, none⟩ (.slice (some ⟨g1, 0, none⟩) (s.way.length + 1) c1)).setCell ⟨c.b, 3, none⟩ (.slice (some ⟨g2, 0, none⟩) (s.op.length + 1) c2)) (.slice (some ⟨g1, 0, none⟩) (s.way.length + 1) c1) (.slice (some ⟨g2, 0, none⟩) (s.op.length + 1) c2) k G { s with way := (x, 0) :: s.way, op := x :: s.op } := by
  obtain ⟨a1, a2, a3, a4, a5, a6, a7, a8, a9, a10⟩ := h.ap.ne
  have hs := hW.size
  have hs9 := hg.size
  have hs2 := hW2.size
  have hs10 := hg2.size
  have keep : ∀ {q : Nat}, q < w.heap.size → (∀ p, wv.ownBlock = some p → p ≠ q) → (∀ p, ov.ownBlock = some p → p ≠ q) → W10.heap[q]? = w.heap[q]? := fun {q} hq h1 h2 => by
    rw [hg2.block q (by omega) (fun e => h2 q e.symm rfl), hW2.block q (by omega), hg.block q (by omega) (fun e => h1 q e.symm rfl), hW.block q hq]
  have k1 := keep h.box.lt (h.wne (by simp)).1 (h.wne (by simp)).2
  have k2 := keep h.mp.lt (h.wne (by simp)).1 (h.wne (by simp)).2
  have k3 := keep h.cm.lt (h.wne (by simp)).1 (h.wne (by simp)).2
  have k4 := keep h.er.lt (h.wne (by simp)).1 (h.wne (by simp)).2
  have k5 := keep h.fs.lt (h.wne (by simp)).1 (h.wne (by simp)).2
  have bl : ∀ q ∈ c.l, q < w.heap.size := mem5 h.box.lt h.mp.lt h.cm.lt h.er.lt h.fs.lt
  have n1 : g1 ∉ c.l := fun hm => by
    rcases hat with e | e
    · exact h.ap.aw g1 e hm
    · have := bl _ hm; omega
  have n2 : g2 ∉ c.l := fun hm => by
    rcases hat2 with e | e
    · exact h.ap.ao g2 e hm
    · have := bl _ hm; omega
  have hg1lt : g1 < W9.heap.size := (ownsRow_lo ho g1 rfl).2
  have n12 : g2 ≠ g1 := fun e => by
    subst e
    rcases hat2 with e2 | e2
    · rcases hat with e1 | e1
      · exact h.ap.wo g2 e1 e2
      · have := (ownsRow_lo h.op g2 e2).2; omega
    · omega
  have nb : ∀ {q : Nat}, q ∉ c.l → q ≠ c.b := fun hq e => hq (by rw [e]; simp)
  have hW10 : W10.ownsRow c.base 3 1 (.slice (some ⟨g1, 0, none⟩) (s.way.length + 1) c1) (s.way.length + 1) (intsOf s.W.reverse ++ [.int .i64 (x : Int)]) :=
    own_agree (ownsRow_below ho hW2) fun q hq => by
      cases hq
      refine hg2.block g1 (by omega) fun e => ?_
      have e := e.symm
      rcases hat with e1 | e1
      · exact h.ap.wo g1 e1 e
      · have := (ownsRow_lo h.op g1 e).2; omega
  have two : ∀ {q : Nat} {u u' : Value}, q ≠ c.b → ((W10.setCell ⟨c.b, 1, none⟩ u).setCell ⟨c.b, 3, none⟩ u').heap[q]? = W10.heap[q]? := fun hq => (Below.heap_setCell _ _ _ _ hq).trans (Below.heap_setCell _ _ _ _ hq)
  have e1 : intsOf (x :: s.W).reverse = intsOf s.W.reverse ++ [.int .i64 (x : Int)] := by simp [intsOf]
  have e2 : intsOf (x :: s.op).reverse = intsOf s.op.reverse ++ [.int .i64 (x : Int)] := by simp [intsOf]
  refine ⟨?_, ?_, ?_, ?_, ?_, ?_, ?_, ⟨h.ap.nd, h.ap.lo, ?_, ?_, ?_⟩⟩
  · have hb : Box W10 c.b _ _ := k1.trans h.box
    exact (hb.set 1 _).set 3 _
  · show World.ownsRow _ _ _ _ _ (s.way.length + 1) (intsOf (x :: s.W).reverse)
    rw [e1]
    exact own_set (own_set hW10 (fun q hq => by cases hq; exact nb n1) _) (fun q hq => by cases hq; exact nb n1) _
  · show World.ownsRow _ _ _ _ _ (s.op.length + 1) (intsOf (x :: s.op).reverse)
    rw [e2]
    exact own_set (own_set ho2 (fun q hq => by cases hq; exact nb n2) _) (fun q hq => by cases hq; exact nb n2) _
  · exact (two (Ne.symm a2)).trans (k3.trans h.cm)
  · exact (two (Ne.symm a3)).trans (k4.trans h.er)
  · exact (two (Ne.symm a4)).trans (k5.trans h.fs)
  · exact h.mp.agree ((two (Ne.symm a1)).trans k2)
  · intro q hq; cases hq; exact n1
  · intro q hq; cases hq; exact n2
  · intro q hq e
    cases hq
    exact n12 (Option.some.inj e)
theorem WK.st_push_below (h : WK c w wv ov k G s) {W W9 W2 W10 : World} {u u' : Value} (hW : Below w.heap.size w W) (hg : W.grownBy W9 wv.ownBlock) (hW2 : Below W9.heap.size W9 W2) (hg2 : W2.grownBy W10 ov.ownBlock) : Below c.base w ((W10.setCell ⟨c.b, 1, none⟩ u).setCell ⟨c.b, 3, none⟩ u') := by
  have hb := h.lo.1
  have hs : c.base ≤ w.heap.size := by have := h.box.lt; omega
  have h1 : Below c.base w W := hW.mono hs
  have h2 : Below c.base w W9 := h1.grown hg (Nat.le_trans hs hW.size) fun q hq => (ownsRow_lo h.way q hq).1
  have h3 : Below c.base w W2 := h2.trans (hW2.mono (Nat.le_trans hs h2.size))
  have h4 : Below c.base w W10 := h3.grown hg2 (Nat.le_trans hs h3.size) fun q hq => (ownsRow_lo h.op q hq).1
  exact (h4.setCell (p := ⟨c.b, 1, none⟩) hb _).setCell (p := ⟨c.b, 3, none⟩) hb _
end

end Go.Proofs.Ytdbjmonboecfgaa
