/- Package scc: enter. -/
import Derived.Test.YtdbjmonboecfgaaGwl
import Derived.RegionTactic
import Derived.BigRegion
import Derived.Deep.RegionLaw
namespace Go.Proofs.Ytdbjmonboecfgaa
open Go.RowKit Go.Maps
set_option linter.unusedVariables false
set_option linter.unusedSimpArgs false

theorem one_news {W : World} {g : Nat} {t : TypeId} {u : Value} (h : Box W g t [u]) : ∀ j v, [u][j]? = some v → W.cell? ((⟨g, 0, none⟩ : Addr).add j) = some v := fun j v hv => by
  match j, hv with
  | 0, hv => simp at hv; subst hv; simp [Addr.add]; exact h.cell 0
theorem box_one (W : World) (t : TypeId) (u : Value) : Box (W.alloc (.cells #[u] t)) W.heap.size t [u] := Box.new W t [u]
theorem box_two (W : World) (t : TypeId) (o : Obj) (u : Value) : Box ((W.alloc o).alloc (.cells #[u] t)) (W.heap.size + 1) t [u] := by
  have h := Box.new (W.alloc o) t [u]
  rw [World.size_alloc] at h
  exact h
set_option maxRecDepth 100000 in
set_option maxHeartbeats 4000000 in
theorem enter_any {c : WB} {w : World} {wv ov : Value} {k : Nat} {G : Nat → Nat → Nat} {s : St} (h : WK c w wv ov k G s) (hl : s.cm.length = c.n) (hl2 : s.er.length = c.n) (x : Nat) (hx : x < c.n) (hw : s.way.length ≤ 1000000) (ho : s.op.length ≤ 1000000) (hc : s.cnt ≤ 1000000) :
    Calls Try.prog 28 #[.pointer (some ⟨c.b, 0, none⟩), .int .i64 (x : Int)] w fun e w' => e = .returned (.tuple #[]) ∧ Below c.base w w' ∧ ∃ wv' ov', WK c w' wv' ov' k G (s.enter x) := by
  obtain ⟨i0, hi0, hz0, hz1, hz2⟩ := info_parts Try.info3
  have H := Lib.hid h
  have hne := h.ap.ne
  have hlo := h.lo
  have HF : Hid (∀ (W : World), W = (((w.setCell ⟨c.b, 4, none⟩ (.int .i64 ((s.cnt : Int) + 1))).setCell ⟨c.cb, x, none⟩ (.int .i64 ((s.cnt : Int) + 1))).setCell ⟨c.eb, x, none⟩ (.int .i64 ((s.cnt : Int) + 1))).drew → WK c W wv ov k G { way := s.way, op := s.op, cnt := s.cnt + 1, cm := s.cm.set x (s.cnt + 1), er := s.er.set x (s.cnt + 1), fs := s.fs } ∧ Below c.base w W) := by
    rintro W rfl
    have h1 := ((((h.st_cnt (s.cnt + 1)).st_cm x (s.cnt + 1)).st_er x (s.cnt + 1))).drew
    have e : ((s.cnt + 1 : Nat) : Int) = (s.cnt : Int) + 1 := by omega
    rw [e] at h1
    exact ⟨h1, ((((Below.refl c.base w).setCell (p := ⟨c.b, 4, none⟩) hlo.1 _).setCell (p := ⟨c.cb, x, none⟩) hlo.2.2.1 _).setCell (p := ⟨c.eb, x, none⟩) hlo.2.2.2.1 _).drew⟩
  have hsz : c.base ≤ w.heap.size := by have := h.box.lt; have := hlo.1; omega
  obtain ⟨base, b, mb, cb, eb, fb, n, gv⟩ := c
  obtain ⟨q0, q1, q2, q3, q4, q5, q6, q7⟩ := box8 h.box
  have f1 := h.box.frozen 1
  have f3 := h.box.frozen 3
  have f4 := h.box.frozen 4
  have g1 := h.cm.frozen x
  have g2 := h.er.frozen x
  have qc := box_el h.cm (i := x) (by rw [hl]; exact hx)
  have qe := box_el h.er (i := x) (by rw [hl2]; exact hx)
  have hcl := h.cm.lt
  have hel := h.er.lt
  have hbl := h.box.lt
  obtain ⟨a1, a2, a3, a4, a5, a6, a7, a8, a9, a10⟩ := hne
  dsimp only at q0 q1 q2 q3 q4 q5 q6 q7 f1 f3 f4 g1 g2 qc qe hcl hel hbl hx a1 a2 a3 a4 a5 a6 a7 a8 a9 a10 HF hsz ⊢
  have b2 := Ne.symm a2
  have b3 := Ne.symm a3
  obtain ⟨u1, hu1⟩ : ∃ v, el s.cm x = v := ⟨_, rfl⟩
  obtain ⟨u2, hu2⟩ : ∃ v, el s.er x = v := ⟨_, rfl⟩
  obtain ⟨ct, hct⟩ : ∃ v, s.cnt = v := ⟨_, rfl⟩
  obtain ⟨S, hS⟩ : ∃ S : St, S = { way := s.way, op := s.op, cnt := s.cnt + 1, cm := s.cm.set x (s.cnt + 1), er := s.er.set x (s.cnt + 1), fs := s.fs } := ⟨_, rfl⟩
  have HE : Hid (s.enter x = { S with way := (x, 0) :: S.way, op := x :: S.op }) := by show _ = _; rw [hS]; rfl
  have HSW : Hid (S.way.length = s.way.length ∧ S.op.length = s.op.length) := by show _ ∧ _; rw [hS]; exact ⟨rfl, rfl⟩
  rw [← hS] at HF
  rw [hu1] at qc
  rw [hu2] at qe
  rw [hct] at q4 hc HF
  clear h hl hl2 hu1 hu2 hct hS a1 a4 a5 a6 a7 a9 a10 hlo
  rw [HE.out]
  go_enter Try.func28, Try.ntmps28
  go_wp2_with fail
  go_region
  obtain ⟨w1, hw1⟩ : ∃ w1, (((w.setCell ⟨b, 4, none⟩ (.int .i64 ((ct : Int) + 1))).setCell ⟨cb, x, none⟩ (.int .i64 ((ct : Int) + 1))).setCell ⟨eb, x, none⟩ (.int .i64 ((ct : Int) + 1))).drew = w1 := ⟨_, rfl⟩
  obtain ⟨hk, hB⟩ := HF.out w1 hw1.symm
  rw [hw1]
  go_wp2_with fail
  clear HF hw1 q0 q1 q2 q3 q4 q5 q6 q7 f1 f3 f4 g1 g2 qc qe hcl hel hbl HE hc b2 b3 a2 a3 a8
  obtain ⟨q0, q1, q2, q3, q4, q5, q6, q7⟩ := box8 hk.box
  have f1 := hk.box.frozen 1
  have f3 := hk.box.frozen 3
  have hbl := hk.box.lt
  dsimp only at q0 q1 q2 q3 q4 q5 q6 q7 f1 f3 hbl
  obtain ⟨m1, hm1⟩ : ∃ m, S.way.length = m := ⟨_, rfl⟩
  obtain ⟨m2, hm2⟩ : ∃ m, S.op.length = m := ⟨_, rfl⟩
  have hL1 : m1 ≤ 1000000 := by rw [← hm1, HSW.out.1]; exact hw
  have hL2 : m2 ≤ 1000000 := by rw [← hm2, HSW.out.2]; exact ho
  have hway := hk.way
  have hop := hk.op
  rw [hm1] at hway
  rw [hm2] at hop
  have n1 : some b ≠ wv.ownBlock := fun e => (hk.wne (q := b) (by simp)).1 b e.symm rfl
  have n2 : some b ≠ ov.ownBlock := fun e => (hk.wne (q := b) (by simp)).2 b e.symm rfl
  have n3 : ∀ q, w1.heap.size ≤ q → some q ≠ wv.ownBlock := fun q hq e => by have := (ownsRow_lo hway q e.symm).2; omega
  have n4 : ov.ownBlock = none ∨ ov.ownBlock ≠ wv.ownBlock := by
    cases e : ov.ownBlock with
    | none => exact .inl rfl
    | some q => exact .inr fun e2 => hk.ap.wo q e2.symm e
  have Q1 : Hid (m1 + 1 ≤ maxLen) := by show _ ≤ _; unfold maxLen; omega
  have Q2 : Hid ((m1 + 1) * 8 ≤ 140737488355328) := by show _ ≤ _; omega
  have Q3 : Hid (m2 + 1 ≤ maxLen) := by show _ ≤ _; unfold maxLen; omega
  have Q4 : Hid ((m2 + 1) * 8 ≤ 140737488355328) := by show _ ≤ _; omega
  have hs1 : base ≤ w1.heap.size := Nat.le_trans hsz hB.size
  have HK := Lib.hid hk
  have HB := Lib.hid hB
  have HM1 := Lib.hid hm1
  have HM2 := Lib.hid hm2
  have HWAY := Lib.hid hway
  have HOP := Lib.hid hop
  have HN1 := Lib.hid n1
  have HN2 := Lib.hid n2
  have HN3 := Lib.hid n3
  have HN4 := Lib.hid n4
  have HONE : Hid (∀ u ∈ [Value.int .i64 (x : Int)], u.oneCell' = true) := by
    intro u hu; simp at hu; rcases hu with rfl; rfl
  clear hk hB hm1 hm2 hway hop n1 n2 n3 n4 H HSW hw ho hsz q0 q2 q4 q5 q6 q7
  have HBX := HK.out.box
  have F9 : Hid (∀ W W9 : World, Below w1.heap.size w1 W → W.grownBy W9 wv.ownBlock → W9.cell? ⟨b, 1, none⟩ = some wv ∧ W9.cell? ⟨b, 3, none⟩ = some ov ∧ W9.frozen? ⟨b, 1, none⟩ = false ∧ W9.frozen? ⟨b, 3, none⟩ = false ∧ b < W9.heap.size) := fun W W9 h1 h2 => by
    have h := (HBX.below h1).grown h2 HN1.out
    exact ⟨h.cell 1, h.cell 3, h.frozen 1, h.frozen 3, h.lt⟩
  have F10 : Hid (∀ W W9 W2 W10 : World, Below w1.heap.size w1 W → W.grownBy W9 wv.ownBlock → Below W9.heap.size W9 W2 → W2.grownBy W10 ov.ownBlock → W10.cell? ⟨b, 1, none⟩ = some wv ∧ W10.cell? ⟨b, 3, none⟩ = some ov ∧ W10.frozen? ⟨b, 1, none⟩ = false ∧ W10.frozen? ⟨b, 3, none⟩ = false ∧ b < W10.heap.size) := fun W W9 W2 W10 h1 h2 h3 h4 => by
    have h := (((HBX.below h1).grown h2 HN1.out).below h3).grown h4 HN2.out
    exact ⟨h.cell 1, h.cell 3, h.frozen 1, h.frozen 3, h.lt⟩
  clear HBX
  have F11 : Hid (∀ W : World, Below w1.heap.size w1 W → base ≤ W.heap.size) := fun W h1 => Nat.le_trans hs1 h1.size
  have F12 : Hid (∀ W W9 W2 : World, Below w1.heap.size w1 W → W.grownBy W9 wv.ownBlock → Below W9.heap.size W9 W2 → base ≤ W2.heap.size) := fun W W9 W2 h1 h2 h3 => Nat.le_trans (Nat.le_trans (Nat.le_trans hs1 h1.size) h2.size) h3.size
  go_region_law (first
    | (refine step_append_lies _ rfl _ _ _ rfl base 3 i0 (.int .i64 0) 1 8 Try.underlying26 hi0 hz0 hz1 hz2 rfl (by decide) wv m1 (intsOf S.W.reverse) rfl (by first | exact (HWAY.out.alloc _).alloc _ | exact HWAY.out.alloc _) _ 1 1 [.int .i64 (x : Int)] rfl rfl (by first | exact one_news ((box_one w1 _ _).alloc _) | exact one_news (box_one w1 _ _) | exact one_news (box_two w1 _ _ _)) HONE.out (by decide) Q1.out Q2.out (F11.out _ (by repeat (first | with_reducible exact Below.refl _ _ | with_reducible refine Below.drew ?_ | with_reducible refine below_alloc ?_ (Nat.le_refl _) _))) _ rfl ?_; intro g9 cap9 w9 hown9 hgr9 hat9 hlt9; obtain ⟨r1, r3, p1, p3, bl9⟩ := F9.out _ _ (by repeat (first | with_reducible exact Below.refl _ _ | with_reducible refine Below.drew ?_ | with_reducible refine below_alloc ?_ (Nat.le_refl _) _)) hgr9)
    | (refine step_append_lies _ rfl _ _ _ rfl base 3 i0 (.int .i64 0) 1 8 Try.underlying26 hi0 hz0 hz1 hz2 rfl (by decide) ov m2 (intsOf S.op.reverse) rfl (by first | exact ((HOP.out.alloc _).drew.kept hgr9 HN4.out).alloc _ | exact ((HOP.out.alloc _).alloc _).drew.kept hgr9 HN4.out) _ 1 1 [.int .i64 (x : Int)] rfl rfl (by first | exact one_news (box_one w9 _ _) | exact one_news (((box_one w1 _ _).alloc _).drew.grown hgr9 (HN3.out _ (Nat.le_refl _))) | exact one_news ((box_two w1 _ _ _).drew.grown hgr9 (HN3.out _ (Nat.le_succ _)))) HONE.out (by decide) Q3.out Q4.out (F12.out _ _ _ (by repeat (first | with_reducible exact Below.refl _ _ | with_reducible refine Below.drew ?_ | with_reducible refine below_alloc ?_ (Nat.le_refl _) _)) hgr9 (by repeat (first | with_reducible exact Below.refl _ _ | with_reducible refine Below.drew ?_ | with_reducible refine below_alloc ?_ (Nat.le_refl _) _))) _ rfl ?_; intro g10 cap10 w10 hown10 hgr10 hat10 hlt10; obtain ⟨u1, u3, y1, y3, bl10⟩ := F10.out _ _ _ _ (by repeat (first | with_reducible exact Below.refl _ _ | with_reducible refine Below.drew ?_ | with_reducible refine below_alloc ?_ (Nat.le_refl _) _)) hgr9 (by repeat (first | with_reducible exact Below.refl _ _ | with_reducible refine Below.drew ?_ | with_reducible refine below_alloc ?_ (Nat.le_refl _) _)) hgr10))
  all_goals go_wp2_with fail
  all_goals refine bodyPost_end (results_none rfl _ _ _) rfl ?_
  all_goals (
    have hk := HK.out
    have e1 := HM1.out
    have e2 := HM2.out
    subst e1
    subst e2
    exact ⟨rfl, HB.out.trans (hk.st_push_below (by repeat (first | with_reducible exact Below.refl _ _ | with_reducible refine Below.drew ?_ | with_reducible refine below_alloc ?_ (Nat.le_refl _) _)) hgr9 (by repeat (first | with_reducible exact Below.refl _ _ | with_reducible refine Below.drew ?_ | with_reducible refine below_alloc ?_ (Nat.le_refl _) _)) hgr10), _, _, hk.st_push (by repeat (first | with_reducible exact Below.refl _ _ | with_reducible refine Below.drew ?_ | with_reducible refine below_alloc ?_ (Nat.le_refl _) _)) hgr9 hown9 hat9 (by repeat (first | with_reducible exact Below.refl _ _ | with_reducible refine Below.drew ?_ | with_reducible refine below_alloc ?_ (Nat.le_refl _) _)) hgr10 hown10 hat10⟩)

end Go.Proofs.Ytdbjmonboecfgaa
