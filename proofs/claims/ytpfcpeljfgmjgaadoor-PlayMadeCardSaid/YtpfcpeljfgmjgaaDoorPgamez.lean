/- The game under way in memory; contract of package play's begin. -/
import Derived.Test.YtpfcpeljfgmjgaaDoorZpa
import Derived.Test.YtpfcpeljfgmjgaaDoorZpo
namespace Go.Proofs.YtpfcpeljfgmjgaaDoor
open Go.RowKit
set_option linter.unusedVariables false
set_option linter.unusedSimpArgs false

/-- The game in memory. -/
structure PG (w : World) (lo hi C e0 G B gb cu : Nat) (ev psl : Value) (n : Nat) (g : Gm) : Prop where
  box : Box w G 77 [psl, .slice (some ⟨gb, 0, none⟩) n cu, .slice (some ⟨B, 0, none⟩) g.ws.length g.ws.length, .int .u64 (wd (waits g.ws) : Nat), .int .u64 (wd (unders g.ws) : Nat), ev, .int .i64 (g.tm : Int)]
  up : Own w gb g.up
  rows : WRow lo hi w B g.ws
  evs : w.ownsRow e0 42 8 ev g.l.length (cellsE g.l)
  gl : G < lo
  bl : B < lo
  lh : lo ≤ hi
  hc : hi ≤ C
  ce : C < e0
  es : e0 ≤ w.heap.size
  gB : G ≠ B
  ug : gb ≠ G
  ub : gb ≠ B
  uC : gb ≠ C
  ue : ∀ q, ev.ownBlock = some q → q ≠ gb
  w64 : g.ws.length ≤ 64

theorem PG.two {w w' : World} {lo hi C e0 G B gb cu : Nat} {ev psl : Value} {n : Nat} {g : Gm} (h : PG w lo hi C e0 G B gb cu ev psl n g) {b : Nat} (ht : Two b b w w') (hb : b = C) : PG w' lo hi C e0 G B gb cu ev psl n g := by
  subst hb
  have hgl := h.gl
  have hbl := h.bl
  have hlh := h.lh
  have hhc := h.hc
  have hce := h.ce
  refine ⟨ht.box h.box (by omega) (by omega), ht.own h.up h.uC h.uC, h.rows.agree (fun k hk => ht.block k (by have := h.es; rcases hk with rfl | hk <;> omega) (by rcases hk with rfl | hk <;> omega) (by rcases hk with rfl | hk <;> omega)) ht.size, ?_, h.gl, h.bl, h.lh, h.hc, h.ce, Nat.le_trans h.es ht.size, h.gB, h.ug, h.ub, h.uC, h.ue, h.w64⟩
  obtain ⟨h1, h2 | ⟨q, cap, cur, rfl, hb', hq, r⟩⟩ := h.evs
  · exact ⟨h1, .inl h2⟩
  · exact ⟨h1, .inr ⟨q, cap, cur, rfl, hb', (ht.block q (Array.getElem?_eq_some_iff.1 hq).1 (by omega) (by omega)).trans hq, r⟩⟩

/-- What a call of the game's may change. -/
structure Chg (e0 G B : Nat) (w w' : World) : Prop where
  os : w'.os = w.os
  tape : w'.tape = w.tape
  output : w'.output = w.output
  size : w.heap.size ≤ w'.heap.size
  block : ∀ k, k < e0 → k ≠ G → k ≠ B → w'.heap[k]? = w.heap[k]?
theorem Chg.refl (e0 G B : Nat) (w : World) : Chg e0 G B w w := ⟨rfl, rfl, rfl, Nat.le_refl _, fun _ _ _ _ => rfl⟩
theorem Chg.trans {e0 G B : Nat} {a b c : World} (h : Chg e0 G B a b) (k : Chg e0 G B b c) : Chg e0 G B a c := ⟨k.os.trans h.os, k.tape.trans h.tape, k.output.trans h.output, Nat.le_trans h.size k.size, fun i h1 h2 h3 => (k.block i h1 h2 h3).trans (h.block i h1 h2 h3)⟩
theorem Chg.of_two {e0 G B : Nat} {w w' : World} (h : Two G B w w') (he : e0 ≤ w.heap.size) : Chg e0 G B w w' := ⟨h.os, h.tape, h.output, h.size, fun k h1 h2 h3 => h.block k (by omega) h2 h3⟩
theorem Chg.of_below {e0 G B : Nat} {w w' : World} (h : Below w.heap.size w w') (he : e0 ≤ w.heap.size) : Chg e0 G B w w' := ⟨h.os, h.tape, h.output, h.size, fun k h1 _ _ => h.block k (by omega)⟩
theorem Chg.below {e0 G B b0 : Nat} {w w' : World} (h : Chg e0 G B w w') (h0 : b0 ≤ e0) (h1 : b0 ≤ G) (h2 : b0 ≤ B) : Below b0 w w' := ⟨h.os, h.tape, h.output, h.size, fun k hk => h.block k (by omega) (by omega) (by omega)⟩

theorem Gm.wk_get {g : Gm} {i : Nat} (h : i < g.ws.length) : g.ws[i]? = some (g.wk i) := by
  unfold Gm.wk
  rw [List.getD_eq_getElem?_getD, List.getElem?_eq_getElem h]; rfl

theorem waits_set (ws : List Wk) (i : Nat) (k : Wk) : waits (ws.set i k) = (waits ws).set i (!k.left.isEmpty) := by unfold waits; rw [List.map_set]
theorem unders_set (ws : List Wk) (i : Nat) (k : Wk) : unders (ws.set i k) = (unders ws).set i k.on := by unfold unders; rw [List.map_set]
theorem waits_length (ws : List Wk) : (waits ws).length = ws.length := by unfold waits; simp
theorem unders_length (ws : List Wk) : (unders ws).length = ws.length := by unfold unders; simp

theorem PG.upd {w w' : World} {lo hi C e0 G B gb cu : Nat} {ev psl : Value} {n : Nat} {g g' : Gm} (h : PG w lo hi C e0 G B gb cu ev psl n g) (ht : Two G B w w')
    (hb : Box w' G 77 [psl, .slice (some ⟨gb, 0, none⟩) n cu, .slice (some ⟨B, 0, none⟩) g'.ws.length g'.ws.length, .int .u64 (wd (waits g'.ws) : Nat), .int .u64 (wd (unders g'.ws) : Nat), ev, .int .i64 (g'.tm : Int)])
    (hr : WRow lo hi w' B g'.ws) (hu : g'.up = g.up) (hl : g'.l = g.l) (hw : g'.ws.length = g.ws.length) : PG w' lo hi C e0 G B gb cu ev psl n g' := by
  have hgl := h.gl
  have hbl := h.bl
  have hlh := h.lh
  have hhc := h.hc
  have hce := h.ce
  refine ⟨hb, by rw [hu]; exact h.up.agree (ht.block gb h.up.1 h.ug h.ub) ht.size, hr, ?_, h.gl, h.bl, h.lh, h.hc, h.ce, Nat.le_trans h.es ht.size, h.gB, h.ug, h.ub, h.uC, h.ue, by rw [hw]; exact h.w64⟩
  rw [hl]
  obtain ⟨h1, h2 | ⟨q, cap, cur, rfl, hb', hq, r⟩⟩ := h.evs
  · exact ⟨h1, .inl h2⟩
  · exact ⟨h1, .inr ⟨q, cap, cur, rfl, hb', (ht.block q (Array.getElem?_eq_some_iff.1 hq).1 (by omega) (by omega)).trans hq, r⟩⟩
set_option maxRecDepth 100000 in
set_option maxHeartbeats 4000000 in
theorem begin_w (w : World) (lo hi C e0 G B gb cu : Nat) (ev psl : Value) (n : Nat) (g : Gm) (i : Nat) (o : Opn) (r : List Opn) (H : PG w lo hi C e0 G B gb cu ev psl n g) (hi' : i < g.ws.length) (hon : (g.wk i).on = false) (hl : (g.wk i).left = o :: r) (hok : o.ok n) :
    Calls Tryd.prog 72 #[.pointer (some ⟨G, 0, none⟩), .int .i64 (i : Int)] w fun e w' => e = .returned (.tuple #[]) ∧ PG w' lo hi C e0 G B gb cu ev psl n { g with ws := g.ws.set i ((g.wk i).beg g.tm) } ∧ Two G B w w' := by
  have hG := H.box.lt
  have hk := Gm.wk_get hi'
  obtain ⟨a, c, hcap, hsl, hpart⟩ := H.rows.part hk
  have hB : B < w.heap.size := by obtain ⟨cs, h1, _⟩ := H.rows; exact h1.1
  rw [hl] at hsl hpart hcap
  obtain ⟨rb, ro, rfl, hr1, hr2, hat⟩ := hsl.at (by simp)
  have hlen : (o :: r).length = r.length + 1 := rfl
  rw [hlen] at hpart hsl hcap
  obtain ⟨m, hm⟩ : ∃ m, r.length = m := ⟨_, rfl⟩
  rw [hm] at hpart
  have T := hat 0 (ocells o) rfl
  have t0 := T 0 _ rfl
  have t1 := T 1 _ rfl
  have t2 := T 2 _ rfl
  have t3 := T 3 _ rfl
  have t4 := T 4 _ rfl
  have t5 := T 5 _ rfl
  have t6 := T 6 _ rfl
  have t7 := T 7 _ rfl
  have t8 := T 8 _ rfl
  have t9 := T 9 _ rfl
  simp only [Nat.zero_mul, Nat.add_zero] at t0 t1 t2 t3 t4 t5 t6 t7 t8 t9
  have hrw : rb < w.heap.size := by have := H.es; have := H.ce; have := H.hc; omega
  obtain ⟨j, hj⟩ : ∃ j, j = i * 13 := ⟨_, rfl⟩
  have d0 := hpart.cell 0 _ rfl
  have d1 := hpart.cell 1 _ rfl
  have d2 := hpart.cell 2 _ rfl
  have d3 := hpart.cell 3 _ rfl
  have d4 := hpart.cell 4 _ rfl
  have d5 := hpart.cell 5 _ rfl
  have d6 := hpart.cell 6 _ rfl
  have d7 := hpart.cell 7 _ rfl
  have d8 := hpart.cell 8 _ rfl
  have d9 := hpart.cell 9 _ rfl
  have d10 := hpart.cell 10 _ rfl
  have d11 := hpart.cell 11 _ rfl
  rw [← hj] at d0 d1 d2 d3 d4 d5 d6 d7 d8 d9 d10 d11
  simp only [Nat.add_zero] at d0
  obtain ⟨d0, f0⟩ := d0
  obtain ⟨_, f1⟩ := d1
  obtain ⟨_, f2⟩ := d2
  obtain ⟨_, f3⟩ := d3
  obtain ⟨_, f4⟩ := d4
  obtain ⟨_, f5⟩ := d5
  obtain ⟨_, f6⟩ := d6
  obtain ⟨_, f7⟩ := d7
  obtain ⟨_, f8⟩ := d8
  obtain ⟨_, f9⟩ := d9
  obtain ⟨_, f10⟩ := d10
  obtain ⟨_, f11⟩ := d11
  obtain ⟨W, hW⟩ : ∃ W, g.ws.length = W := ⟨_, rfl⟩
  obtain ⟨wt, hwt⟩ : ∃ x, wd (waits g.ws) = x := ⟨_, rfl⟩
  obtain ⟨un, hun⟩ : ∃ x, wd (unders g.ws) = x := ⟨_, rfl⟩
  have hbox := H.box
  rw [hW, hwt, hun] at hbox
  obtain ⟨_, _, _, _, _, _, _⟩ := hbox.seven
  obtain ⟨_, _, _, _, _, _, _⟩ := hbox.sevenf
  have hiW : i < W := by omega
  have hi0 : (0 : Int) ≤ (i : Int) := by omega
  have hi1 : (i : Int) < (W : Int) := by omega
  have gB := H.gB
  have gB' := Ne.symm gB
  have T2 : ∀ W0, Sem.run Tryd.prog (Instr.indexAt 73 (.slice (some ⟨B, 0, none⟩) W W) (.int .i64 (i : Int))) W0 = .ok (.pointer (some ⟨B, j, none⟩)) W0 := fun W0 => by rw [hj]; go_simp
  have hrB : rb ≠ B := by have := H.bl; omega
  have hrG : rb ≠ G := by have := H.gl; omega
  have HW1 := fun w0 => with_any (unders g.ws) i w0 (by rw [unders_length]; exact H.w64) (by rw [unders_length]; exact hi') _ rfl
  have HW2 := fun w0 => without_any (waits g.ws) i w0 (by rw [waits_length]; exact H.w64) (by rw [waits_length]; exact hi') _ rfl
  rw [hun] at HW1
  rw [hwt] at HW2
  have HH := Lib.hid H
  have HP := Lib.hid hpart
  have HJ := Lib.hid hj
  have HHW := Lib.hid hW
  have HWT := Lib.hid hwt
  have HUN := Lib.hid hun
  have HSL := Lib.hid hsl
  have HM := Lib.hid hm
  have HCAP := Lib.hid hcap
  have HAT := Lib.hid hat
  have HW1 := Lib.hid HW1
  have HW2 := Lib.hid HW2
  clear H hpart T hat hsl hj hW hwt hun hbox hm hcap
  go_enter Tryd.func72, Tryd.ntmps72
  go_wp2_with fail
  go_region
  obtain ⟨ra, hra⟩ : ∃ ra : Option Addr, (if c = 1 then some (⟨rb, ro, none⟩ : Addr) else some ⟨rb, ro + 10, none⟩) = ra := ⟨_, rfl⟩
  rw [hra]
  have HRA := Lib.hid hra
  clear hra
  go_wp2_with (first | (go_at_call 68; (with_reducible refine (HW1.out _).mono ?_); rintro e w' ⟨rfl, rfl⟩) | (go_at_call 102; (with_reducible refine (HW2.out _).mono ?_); rintro e w' ⟨rfl, rfl⟩))
  all_goals go_end0
  all_goals refine ⟨rfl, ?_⟩
  all_goals rw [HJ.out]
  all_goals (
    have hBl : B < lo ∨ hi ≤ B := .inl HH.out.bl
    have hbeg : (g.wk i).beg g.tm = ⟨r, true, o.tk, o.y, g.tm, (g.wk i).mt⟩ := by unfold Wk.beg; rw [hon, hl]; rfl
    have hch := ((((((((((((HP.out.put (j := 1) hBl (by omega) (.int .i64 (o.k : Int))).put (j := 2) hBl (by omega) (.int .i64 (o.x : Int))).put (j := 3) hBl (by omega) (.int .i64 o.y)).put (j := 4) hBl (by omega) (.int .i64 1)).put (j := 5) hBl (by omega) (.int .i64 (o.x : Int))).put (j := 6) hBl (by omega) (.int .i64 o.y)).put (j := 7) hBl (by omega) (.int .i64 0)).put (j := 8) hBl (by omega) (.int .i64 0)).put (j := 9) hBl (by omega) (.bool false)).put (j := 10) hBl (by omega) (.int .i64 0)).put (j := 0) hBl (by omega) (.slice ra m (c - 1))).put (j := 11) hBl (by omega) (.int .i64 (g.tm : Int)))
    have hrest : Rest lo hi w (.slice ra m (c - 1)) r := by
      refine ⟨ra, c - 1, by rw [HM.out], by have := HCAP.out; have := HM.out; omega, by simp, ?_⟩
      by_cases h0 : r.length = 0
      · exact .inl h0
      · refine .inr ⟨rb, ro + 10, ?_, hr1, hr2, HAT.out.tail⟩
        rw [← HRA.out, if_neg (by have := HCAP.out; have := HM.out; omega)]
    have ht : Two B B w _ := ((((((((((((Two.refl B B w).set B (i * 13 + 1) (.inl rfl) (.int .i64 (o.k : Int))).set B (i * 13 + 2) (.inl rfl) (.int .i64 (o.x : Int))).set B (i * 13 + 3) (.inl rfl) (.int .i64 o.y)).set B (i * 13 + 4) (.inl rfl) (.int .i64 1)).set B (i * 13 + 5) (.inl rfl) (.int .i64 (o.x : Int))).set B (i * 13 + 6) (.inl rfl) (.int .i64 o.y)).set B (i * 13 + 7) (.inl rfl) (.int .i64 0)).set B (i * 13 + 8) (.inl rfl) (.int .i64 0)).set B (i * 13 + 9) (.inl rfl) (.bool false)).set B (i * 13 + 10) (.inl rfl) (.int .i64 0)).set B (i * 13 + 0) (.inl rfl) (.slice ra m (c - 1))).set B (i * 13 + 11) (.inl rfl) (.int .i64 (g.tm : Int))
    generalize hw1 : ((((((((((((w.setCell ⟨B, i * 13 + 1, none⟩ (.int .i64 (o.k : Int))).setCell ⟨B, i * 13 + 2, none⟩ (.int .i64 (o.x : Int))).setCell ⟨B, i * 13 + 3, none⟩ (.int .i64 o.y)).setCell ⟨B, i * 13 + 4, none⟩ (.int .i64 1)).setCell ⟨B, i * 13 + 5, none⟩ (.int .i64 (o.x : Int))).setCell ⟨B, i * 13 + 6, none⟩ (.int .i64 o.y)).setCell ⟨B, i * 13 + 7, none⟩ (.int .i64 0)).setCell ⟨B, i * 13 + 8, none⟩ (.int .i64 0)).setCell ⟨B, i * 13 + 9, none⟩ (.bool false)).setCell ⟨B, i * 13 + 10, none⟩ (.int .i64 0)).setCell ⟨B, i * 13 + 0, none⟩ (.slice ra m (c - 1))).setCell ⟨B, i * 13 + 11, none⟩ (.int .i64 (g.tm : Int))) = w1 at hch ht
    have hrow : WRow lo hi w1 B (g.ws.set i ((g.wk i).beg g.tm)) := by
      refine hch.row (rv := .slice ra m (c - 1)) ?_ ?_
      · rw [hbeg]
        show _ = _ :: (tcells o.tk o.y ++ _)
        rw [← ocells_tk hok]
        rfl
      · rw [hbeg]
        exact hrest.agree fun b hl' hh' => ht.block b (by have := HH.out.hc; have := HH.out.ce; have := HH.out.es; omega) (by have := HH.out.bl; omega) (by have := HH.out.bl; omega)
    have hb1 := ht.box HH.out.box gB gB
    have hun1 : unders (g.ws.set i ((g.wk i).beg g.tm)) = (unders g.ws).set i true := by rw [unders_set, hbeg]
    have hwt1 : waits (g.ws.set i ((g.wk i).beg g.tm)) = (waits g.ws).set i (!r.isEmpty) := by rw [waits_set, hbeg]
    have hgB : ∀ b, (b = B ∨ (lo ≤ b ∧ b < hi)) → b ≠ G := fun b hb' => by have := HH.out.gl; rcases hb' with rfl | h <;> omega
    clear hch)
  · have hm0 : m = 0 := by have : ((m : Int) == 0) = true := by assumption
                           simpa using this
    have hr0 : r.isEmpty = true := by have := HM.out; simpa using List.eq_nil_of_length_eq_zero (this.trans hm0)
    refine ⟨HH.out.upd ?_ ?_ ?_ rfl rfl (by simp), ?_⟩
    · exact (((ht.wide (.inr rfl)).set G 4 (.inl rfl) _).set G 3 (.inl rfl) _).drew
    · rw [hun1, hwt1, hr0, List.length_set]
      exact ((hb1.set 4 _).set 3 _).drew
    · exact (hrow.agree (fun b hb' => Below.heap_setCell w1 ⟨G, 4, none⟩ _ b (hgB b hb')) (by simp)).agree (fun b hb' => Below.heap_setCell _ ⟨G, 3, none⟩ _ b (hgB b hb')) (by simp)
    · exact (((ht.wide (.inr rfl)).set G 4 (.inl rfl) _).set G 3 (.inl rfl) _).drew
  · have hm0 : m ≠ 0 := by have : ((m : Int) == 0) = false := by assumption
                           intro h; rw [h] at this; simp at this
    have hr0 : r.isEmpty = false := by have := HM.out; cases h : r with
      | nil => rw [h] at this; exact absurd this.symm hm0
      | cons _ _ => rfl
    have hsame : (waits g.ws).set i true = waits g.ws := set_same (by unfold waits; rw [List.getElem?_map, hk, Option.map_some, hl]; rfl)
    refine ⟨HH.out.upd ?_ ?_ ?_ rfl rfl (by simp), ?_⟩
    · exact ((ht.wide (.inr rfl)).set G 4 (.inl rfl) _).drew
    · rw [hun1, hwt1, hr0, List.length_set]
      show Box _ _ _ [_, _, _, .int .u64 (wd ((waits g.ws).set i true) : Nat), _, _, _]
      rw [hsame]
      exact (hb1.set 4 _).drew
    · exact hrow.agree (fun b hb' => Below.heap_setCell w1 ⟨G, 4, none⟩ _ b (hgB b hb')) (by simp)
    · exact ((ht.wide (.inr rfl)).set G 4 (.inl rfl) _).drew

end Go.Proofs.YtpfcpeljfgmjgaaDoor
