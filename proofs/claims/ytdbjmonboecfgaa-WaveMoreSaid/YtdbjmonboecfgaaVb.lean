/- Package wave: add. -/
import Derived.Test.YtdbjmonboecfgaaVa
namespace Go.Proofs.Ytdbjmonboecfgaa
open Go.RowKit Go.Maps
set_option linter.unusedVariables false
set_option linter.unusedSimpArgs false

/-- Edges in memory: rows that grow, and how many are left; blocks that lie apart. -/
structure EB (w : World) (base fo lo m : Nat) (X : List Nat) (vs : List Value) (P : PL) : Prop where
  grd : Grd w base (.slice (some ⟨fo, 0, none⟩) m m) vs (fromL m P)
  box : Box w lo 3 (intsOf (leftL m P))
  ap : ∀ i, i < m → ∀ q, (vg vs i).ownBlock = some q → q ∉ X
  lx : lo ∈ X
  bl : base ≤ lo
  xf : ∀ r ∈ X, r < w.heap.size ∧ r ≠ fo
section
variable {w w' : World} {base fo lo m : Nat} {X : List Nat} {vs : List Value} {P : PL}
theorem EB.below (h : EB w base fo lo m X vs P) (hb : Below w.heap.size w w') : EB w' base fo lo m X vs P :=
  ⟨h.grd.below hb, h.box.below hb, h.ap, h.lx, h.bl, fun r hr => ⟨Nat.lt_of_lt_of_le (h.xf r hr).1 hb.size, (h.xf r hr).2⟩⟩
end

set_option maxRecDepth 100000 in
set_option maxHeartbeats 8000000 in
theorem add_any (base fo lo m : Nat) (X : List Nat) (vs : List Value) (P : PL) (s t : Nat) (w : World) (h : EB w base fo lo m X vs P) (hm : m ≤ 10000) (hs : s < m) (ht : t < m) (hr : (fromR P t).length ≤ 10000) (hl : leftN P s ≤ 10000) :
    Calls Try.prog 32 #[.agg #[.slice (some ⟨fo, 0, none⟩) m m, .slice (some ⟨lo, 0, none⟩) m m], .agg #[.int .i64 (s : Int), .int .i64 (t : Int)]] w fun e w' => e = .returned (.tuple #[]) ∧ (∃ vs', EB w' base fo lo m X vs' (P ++ [(s, t)])) ∧ Below base w w' ∧ ∀ r ∈ X, r ≠ lo → w'.heap[r]? = w.heap[r]? := by
  obtain ⟨i0, hi0, hz0, hz1, hz2⟩ := info_parts Try.info3
  have hfo := (ownsRow_lo h.grd.own fo rfl)
  have hlo := (h.xf lo h.lx)
  obtain ⟨hfo1, hfo2⟩ := hfo
  obtain ⟨hlo1, hlo2⟩ := hlo
  obtain ⟨w2, hw2⟩ : ∃ w2, (w.alloc (.cells #[.slice (some ⟨fo, 0, none⟩) m m, .slice (some ⟨lo, 0, none⟩) m m] 42)).alloc (.cells #[.int .i64 (s : Int), .int .i64 (t : Int)] 53) = w2 := ⟨_, rfl⟩
  have hb2 : Below w.heap.size w w2 := by rw [← hw2]; exact ((Below.refl _ _).alloc (Nat.le_refl _) _).alloc (by simp) _
  have hs2 : w2.heap.size = w.heap.size + 2 := by rw [← hw2]; simp
  have hx1 : Box w2 w.heap.size 42 [.slice (some ⟨fo, 0, none⟩) m m, .slice (some ⟨lo, 0, none⟩) m m] := by rw [← hw2]; exact (Box.new w _ [.slice (some ⟨fo, 0, none⟩) m m, .slice (some ⟨lo, 0, none⟩) m m]).alloc _
  have hx2 : Box w2 (w.heap.size + 1) 53 [.int .i64 (s : Int), .int .i64 (t : Int)] := by
    rw [← hw2]
    have := Box.new (w.alloc (.cells #[.slice (some ⟨fo, 0, none⟩) m m, .slice (some ⟨lo, 0, none⟩) m m] 42)) 53 [.int .i64 (s : Int), .int .i64 (t : Int)]
    rw [World.size_alloc] at this
    exact this
  have HE := Lib.hid (h.below hb2)
  have HXF : Hid (∀ r ∈ X, r < w.heap.size ∧ r ≠ fo) := h.xf
  have HB2 := Lib.hid hb2
  have HW2 := Lib.hid hw2
  have hrow := HE.out.grd
  have HG0 := Lib.hid h.grd
  clear h
  obtain ⟨B, hB⟩ : ∃ B, w.heap.size = B := ⟨_, rfl⟩
  obtain ⟨u, hu⟩ : ∃ u, vg vs t = u := ⟨_, rfl⟩
  have hco := hrow.own.cells (g := fo) rfl t (vg vs t) (by simp [vg, List.getD, show t < vs.length by rw [hrow.len, fromL_len]; exact ht])
  rw [Addr.add_lit, Nat.zero_add, hu] at hco
  have hff : w2.frozen? ⟨fo, t, none⟩ = false := by have h9 := hrow.own; rw [fromL_len] at h9; exact h9.frozenAt t
  have hrw := hrow.row t (by rw [fromL_len]; exact ht)
  rw [hu, fromL_row ht] at hrw
  obtain ⟨lr, hlr⟩ : ∃ lr, (fromR P t).length = lr := ⟨_, rfl⟩
  rw [hlr] at hrw hr
  obtain ⟨ua, uc, rfl⟩ := own_shape hrw
  obtain ⟨ln, hln⟩ : ∃ ln, leftN P s = ln := ⟨_, rfl⟩
  have hcl := box_el HE.out.box (i := s) (by rw [leftL_len (P := P)]; exact hs)
  have hfl := HE.out.box.frozen s
  rw [leftL_el hs, hln] at hcl
  rw [hln] at hl
  obtain ⟨q1, q2, _, _⟩ := hx1.two
  obtain ⟨q3, q4, _, _⟩ := hx2.two
  rw [hB] at q1 q2 q3 q4 hs2 hfo2 hlo1
  have T3 : ∀ W, Sem.run Try.prog (Instr.indexAt 23 (.slice (some ⟨fo, 0, none⟩) m m) (.int .i64 (t : Int))) W = .ok (.pointer (some ⟨fo, t, none⟩)) W := fun W => by go_simp
  have T4 : ∀ W, Sem.run Try.prog (Instr.indexAt 26 (.slice (some ⟨lo, 0, none⟩) m m) (.int .i64 (s : Int))) W = .ok (.pointer (some ⟨lo, s, none⟩)) W := fun W => by go_simp
  have HRW := Lib.hid hrw
  have HLR := Lib.hid hlr
  have HU := Lib.hid hu
  have HLO : Hid (∀ q, (Value.slice ua lr uc).ownBlock = some q → base ≤ q ∧ q < B) := fun q hq => by
    have h9 := ownsRow_lo (HG0.out.row t (by rw [fromL_len]; exact ht)) q (by rw [hu]; exact hq)
    rw [hB] at h9; exact h9
  have HAP : Hid (∀ q, (Value.slice ua lr uc).ownBlock = some q → q ∉ X) := fun q hq => HE.out.ap t ht q (by rw [hu]; exact hq)
  have HAF : Hid ((Value.slice ua lr uc).ownBlock ≠ some fo) := fun e => hrow.ap t (by rw [fromL_len]; exact ht) fo (by rw [hu]; exact e) rfl
  have HKC : Hid (∀ W W9 : World, Below w2.heap.size w2 W → W.grownBy W9 (Value.slice ua lr uc).ownBlock → W9.cell? ⟨B, 0, none⟩ = some (.slice (some ⟨fo, 0, none⟩) m m) ∧ W9.cell? ⟨B, 1, none⟩ = some (.slice (some ⟨lo, 0, none⟩) m m) ∧ W9.cell? ⟨fo, t, none⟩ = some (.slice ua lr uc) ∧ W9.frozen? ⟨fo, t, none⟩ = false ∧ W9.cell? ⟨lo, s, none⟩ = some (.int .i64 (ln : Int)) ∧ W9.frozen? ⟨lo, s, none⟩ = false ∧ fo < W9.heap.size ∧ lo < W9.heap.size ∧ B < W9.heap.size) := fun W W9 h4 h5 => by
    have s1 := h4.size
    have s2 := h5.size
    have k1 : ∀ o, W9.cell? ⟨B, o, none⟩ = w2.cell? ⟨B, o, none⟩ := fun o => (World.cell?_of_block (h5.block B (by omega) (fun e => by have := (HLO.out B e.symm).2; omega))).trans (h4.cell (p := ⟨B, o, none⟩) (by show B < _; omega))
    have k2 : ∀ o, W9.cell? ⟨fo, o, none⟩ = w2.cell? ⟨fo, o, none⟩ := fun o => (World.cell?_of_block (h5.block fo (by omega) (fun e => HAF.out e.symm))).trans (h4.cell (p := ⟨fo, o, none⟩) (by show fo < _; omega))
    have k3 : ∀ o, W9.frozen? ⟨fo, o, none⟩ = w2.frozen? ⟨fo, o, none⟩ := fun o => (World.frozen?_of_block (h5.block fo (by omega) (fun e => HAF.out e.symm))).trans (h4.frozen (p := ⟨fo, o, none⟩) (by show fo < _; omega))
    have k4 : ∀ o, W9.cell? ⟨lo, o, none⟩ = w2.cell? ⟨lo, o, none⟩ := fun o => (World.cell?_of_block (h5.block lo (by omega) (fun e => HAP.out lo e.symm HE.out.lx))).trans (h4.cell (p := ⟨lo, o, none⟩) (by show lo < _; omega))
    have k5 : ∀ o, W9.frozen? ⟨lo, o, none⟩ = w2.frozen? ⟨lo, o, none⟩ := fun o => (World.frozen?_of_block (h5.block lo (by omega) (fun e => HAP.out lo e.symm HE.out.lx))).trans (h4.frozen (p := ⟨lo, o, none⟩) (by show lo < _; omega))
    exact ⟨(k1 0).trans q1, (k1 1).trans q2, (k2 t).trans hco, (k3 t).trans hff, (k4 s).trans hcl, (k5 s).trans hfl, by omega, by omega, by omega⟩
  have HF : Hid (∀ (W W9 : World) (g9 cap9 : Nat), Below w2.heap.size w2 W → W.grownBy W9 (Value.slice ua lr uc).ownBlock → W9.ownsRow base 3 1 (.slice (some ⟨g9, 0, none⟩) (lr + 1) cap9) (lr + 1) (intR (fromR P t) ++ [.int .i64 (s : Int)]) → ((Value.slice ua lr uc).ownBlock = some g9 ∨ g9 = W.heap.size) → (∃ vs', EB ((W9.setCell ⟨fo, t, none⟩ (.slice (some ⟨g9, 0, none⟩) (lr + 1) cap9)).setCell ⟨lo, s, none⟩ (.int .i64 ((ln : Int) + 1))) base fo lo m X vs' (P ++ [(s, t)])) ∧ Below base w ((W9.setCell ⟨fo, t, none⟩ (.slice (some ⟨g9, 0, none⟩) (lr + 1) cap9)).setCell ⟨lo, s, none⟩ (.int .i64 ((ln : Int) + 1))) ∧ ∀ r ∈ X, r ≠ lo → ((W9.setCell ⟨fo, t, none⟩ (.slice (some ⟨g9, 0, none⟩) (lr + 1) cap9)).setCell ⟨lo, s, none⟩ (.int .i64 ((ln : Int) + 1))).heap[r]? = w.heap[r]?) := fun W W9 g9 cap9 h4 h5 h6 h7 => by
    have hl9 : (fromR P t ++ [(s : Int)]).length = lr + 1 := by rw [List.length_append, hlr]; rfl
    have hp := HE.out.grd.put (W := W) (w9 := W9) (i := t) (o := fo) (n := m) (cap := m) (g := g9) (c := cap9) (r := fromR P t ++ [(s : Int)]) (by rw [fromL_len]; exact ht) rfl h4 (by rw [hu]; exact h5) (by rw [hl9]; simpa [intR] using h6) (by rw [hu]; exact h7)
    rw [hl9] at hp
    have s1 := h4.size
    have s2 := h5.size
    have hbase : base ≤ w.heap.size := by omega
    have hg9 : g9 ∉ X := by
      rcases h7 with e | e
      · exact HAP.out g9 e
      · intro hm; have := (HXF.out g9 hm).1; omega
    have hne9 : lo ≠ g9 := fun e => hg9 (by rw [← e]; exact HE.out.lx)
    have hkb : ∀ r, r ∈ X → W9.heap[r]? = w2.heap[r]? := fun r hr => by
      have := (HXF.out r hr).1
      rw [h5.block r (by omega) (fun e => HAP.out r e.symm hr), h4.block r (by omega)]
    have hbox9 : Box (W9.setCell ⟨fo, t, none⟩ (.slice (some ⟨g9, 0, none⟩) (lr + 1) cap9)) lo 3 (intsOf (leftL m P)) := Box.setOther ((hkb lo HE.out.lx).trans HE.out.box) (show lo ≠ fo from hlo2) _
    refine ⟨⟨vs.set t (.slice (some ⟨g9, 0, none⟩) (lr + 1) cap9), ⟨?_, ?_, fun i hi q hq => ?_, HE.out.lx, HE.out.bl, fun r hr => ⟨?_, (HE.out.xf r hr).2⟩⟩⟩, ?_, fun r hr hne => ?_⟩
    · rw [fromL_add ht, fromL_row ht]
      refine hp.agree (fun q hq => ?_) (fun i hi q hq => ?_)
      · cases hq
        exact Below.heap_setCell _ _ _ _ (show fo ≠ lo from fun e => hlo2 e.symm)
      · refine Below.heap_setCell _ _ _ _ (show q ≠ lo from fun e => ?_)
        subst e
        by_cases et : t = i
        · subst et
          rw [vg_set_self (by rw [HE.out.grd.len, fromL_len]; exact ht)] at hq
          have : g9 = q := by simpa [Value.ownBlock] using hq
          exact hne9 this.symm
        · rw [vg_set_other et] at hq
          rw [List.length_set, fromL_len] at hi
          exact HE.out.ap i hi q hq HE.out.lx
    · rw [leftL_add hs, leftL_el hs, hln]
      have := Box.set hbox9 s (.int .i64 ((ln : Int) + 1))
      rw [show ((ln : Int) + 1) = ((ln + 1 : Nat) : Int) by omega, intsOf_set] at this
      exact this
    · by_cases et : t = i
      · subst et
        rw [vg_set_self (by rw [HE.out.grd.len, fromL_len]; exact ht)] at hq
        have : g9 = q := by simpa [Value.ownBlock] using hq
        rw [← this]; exact hg9
      · rw [vg_set_other et] at hq
        exact HE.out.ap i hi q hq
    · have := (HXF.out r hr).1
      simp [World.setCell]
      omega
    · exact ((((HB2.out.mono hbase).trans (h4.mono (by omega))).grown h5 (by omega) fun p hp => (HLO.out p hp).1).setCell (p := ⟨fo, t, none⟩) hfo1 _).setCell (p := ⟨lo, s, none⟩) HE.out.bl _
    · have := (HXF.out r hr).1
      rw [Below.heap_setCell _ _ _ _ (show r ≠ lo from hne), Below.heap_setCell _ _ _ _ (show r ≠ fo from (HXF.out r hr).2), hkb r hr, HB2.out.block r (by omega)]
  have HW1 : Hid (∀ W : World, Below w2.heap.size w2 W → base ≤ W.heap.size) := fun W h4 => by have := h4.size; omega
  have HQ1 : Hid (lr + 1 ≤ maxLen) := by show _ ≤ _; unfold maxLen; omega
  have HQ2 : Hid ((lr + 1) * 8 ≤ 140737488355328) := by show _ ≤ _; omega
  have HONE : Hid (∀ u ∈ [Value.int .i64 (s : Int)], u.oneCell' = true) := by
    intro u hu; simp at hu; rcases hu with rfl; rfl
  have hB2s : B < w2.heap.size := by omega
  have hB3s : B + 1 < w2.heap.size := by omega
  have hfo3 : fo < w2.heap.size := by omega
  have hlo3 : lo < w2.heap.size := by omega
  have hne1 : B ≠ fo := by omega
  have hne2 : B ≠ lo := by omega
  have HEW : Hid (w.heap.size = B) := hB
  clear hrow hx1 hx2 hb2 hrw hlr hu hln
  go_enter Try.func32, Try.ntmps32
  go_upto_region 1 with fail
  clear hw2 hB
  go_quiet (fail)
  go_upto_region 2 with fail
  generalize hw3 : World.drewN w2 _ = w3
  have hb3 : Below w2.heap.size w2 w3 := by rw [← hw3]; exact below_drewN (Below.refl _ _) _
  have hs3 : w3.heap.size = w2.heap.size := by rw [← hw3]; rfl
  have HB3 := Lib.hid hb3
  have hco3 := (hb3.cell (p := ⟨fo, t, none⟩) hfo3).trans hco
  have hff3 := (hb3.frozen (p := ⟨fo, t, none⟩) hfo3).trans hff
  have hcl3 := (hb3.cell (p := ⟨lo, s, none⟩) hlo3).trans hcl
  have hfl3 := (hb3.frozen (p := ⟨lo, s, none⟩) hlo3).trans hfl
  have q13 := (hb3.cell (p := ⟨B, 0, none⟩) hB2s).trans q1
  have q23 := (hb3.cell (p := ⟨B, 1, none⟩) hB2s).trans q2
  have hB2t : B < w3.heap.size := by omega
  have hfo4 : fo < w3.heap.size := by omega
  have hlo4 : lo < w3.heap.size := by omega
  have hRW3 : Hid (w3.ownsRow base 3 1 (Value.slice ua lr uc) lr (intR (fromR P t))) := ownsRow_below HRW.out hb3
  have HL3 : Hid (∀ W : World, Below w3.heap.size w3 W → Below w2.heap.size w2 W) := fun W h => by
    have := h
    rw [hs3] at this
    exact HB3.out.trans this
  have HS3 := Lib.hid hs3
  have HS2 := Lib.hid hs2
  clear hw3 hb3 hs3 hs2
  go_region_law ((refine step_append_lies _ rfl _ _ _ rfl base 3 i0 (.int .i64 0) 1 8 Try.underlying26 hi0 hz0 hz1 hz2 rfl (by decide) (.slice ua lr uc) lr (intR (fromR P t)) rfl (by exact ownsRow_below hRW3.out (by repeat (first | with_reducible exact Below.refl _ _ | with_reducible refine Below.drew ?_ | with_reducible refine below_alloc ?_ (Nat.le_refl _) _))) _ 1 1 [.int .i64 (s : Int)] rfl rfl (by first | exact one_news (box_one _ _ _) | exact one_news (box_one _ _ _).drew) HONE.out (by decide) HQ1.out HQ2.out (HW1.out _ (HL3.out _ <| by repeat (first | with_reducible exact Below.refl _ _ | with_reducible refine Below.drew ?_ | with_reducible refine below_alloc ?_ (Nat.le_refl _) _))) _ rfl ?_; intro g9 cap9 w9 hown9 hgr9 hat9 hlt9; obtain ⟨r1, r2, r3, r4, r5, r6, r7, r8, r9⟩ := HKC.out _ _ (HL3.out _ <| by repeat (first | with_reducible exact Below.refl _ _ | with_reducible refine Below.drew ?_ | with_reducible refine below_alloc ?_ (Nat.le_refl _) _)) hgr9))
  all_goals (
    have hF := Lib.hid (HF.out _ _ _ _ (HL3.out _ <| by repeat (first | with_reducible exact Below.refl _ _ | with_reducible refine Below.drew ?_ | with_reducible refine below_alloc ?_ (Nat.le_refl _) _)) hgr9 hown9 hat9)
    clear hown9 hgr9 hat9
    have hw9 : IntKind.i64.wrap ((ln : Int) + 1) = (ln : Int) + 1 := IntWalk.i64_in _ (by omega)
    go_wp2_with fail
    refine bodyPost_end (results_none rfl _ _ _) rfl ?_
    exact ⟨rfl, hF.out⟩)

end Go.Proofs.Ytdbjmonboecfgaa
