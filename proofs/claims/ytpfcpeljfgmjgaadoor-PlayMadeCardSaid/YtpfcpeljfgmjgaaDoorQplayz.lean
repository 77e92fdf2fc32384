/- Contract of the document's Play. -/
import Derived.Test.YtpfcpeljfgmjgaaDoorZpq
import Derived.Test.YtpfcpeljfgmjgaaDoorPofz
import Derived.Test.YtpfcpeljfgmjgaaDoorPtasksz
import Derived.Test.YtpfcpeljfgmjgaaDoorPlaylz
import Derived.Test.YtpfcpeljfgmjgaaDoorPscrz
import Derived.Deep.QuietTactic
import Derived.Deep.AppendLies
import Derived.Deep.RegionLaw
import Derived.Deep.DeepCutAuto
namespace Go.Proofs.YtpfcpeljfgmjgaaDoor
open Go.RowKit
set_option linter.unusedVariables false
set_option linter.unusedSimpArgs false

theorem Tryd.workSize : (Tryd.prog.info? 83).map (·.size) = some 14 := by kernel_rfl
theorem Tryd.workInfo : (Tryd.prog.info? 83).map (fun i => (i.zero, i.size, i.bytes)) = some (some (.agg #[.slice none 0 0, .bool false, .int .i64 0, .int .i64 0, .int .i64 0, .int .i64 0, .int .i64 0, .int .i64 0, .int .i64 0, .int .i64 0, .bool false, .int .i64 0, .int .i64 0, .int .i64 0]), 14, 128) := by kernel_rfl

/-- A worker that has not begun, in memory. -/
def zeros13 : List Value := [.bool false, .int .i64 0, .int .i64 0, .int .i64 0, .int .i64 0, .int .i64 0, .int .i64 0, .int .i64 0, .int .i64 0, .bool false, .int .i64 0, .int .i64 0, .int .i64 0]
theorem rcell_new (l : List Opn) (a : Option Addr) (c : Nat) : rcell (Wk.new l) a c = .slice a l.length c :: zeros13 := by
  simp [rcell, Wk.new, tcells, tk0, tV, zeros13]
/-- Workers that are built, one behind the other. -/
def LeftB (w : World) (A : Nat) (own : Option Nat) (a : Option Addr) (l : List Opn) : Prop := l = [] ∨ ∃ b off, a = some ⟨b, off, none⟩ ∧ A < b ∧ b < w.heap.size ∧ own ≠ some b ∧ At 3 w b off (l.map ocell3)
def WIn (w : World) (A : Nat) (own : Option Nat) (xs : List (List Value)) (ls : List (List Opn)) : Prop :=
  xs.length = ls.length ∧ ∀ (i : Nat) (l : List Opn), ls[i]? = some l → ∃ a c, xs[i]? = some (rcell (Wk.new l) a c) ∧ l.length ≤ c ∧ LeftB w A own a l
theorem flatten14 {xs : List (List Value)} : ∀ (_ : ∀ y ∈ xs, y.length = 14), xs.flatten.length = xs.length * 14 := by
  induction xs with
  | nil => intro _; rfl
  | cons x xs ih => intro h; rw [List.flatten_cons, List.length_append, ih fun y hy => h y (by simp [hy]), h x (by simp), List.length_cons]; omega
theorem WIn.len {w : World} {A : Nat} {own : Option Nat} {xs : List (List Value)} {ls : List (List Opn)} (h : WIn w A own xs ls) : ∀ y ∈ xs, y.length = 14 := by
  intro y hy
  obtain ⟨i, hi, rfl⟩ := List.getElem_of_mem hy
  obtain ⟨a, c, h1, _⟩ := h.2 i (ls[i]'(by have := h.1; omega)) (List.getElem?_eq_getElem _)
  rw [List.getElem?_eq_getElem hi] at h1
  rw [Option.some.inj h1]; exact rcell_length _ _ _
/-- One worker more. -/
theorem WIn.snoc {wr wx w9 : World} {A g : Nat} {own : Option Nat} {xs : List (List Value)} {ls : List (List Opn)} {l : List Opn} {a : Option Addr} {c : Nat} (h : WIn wr A own xs ls) (hown : ∀ q, own = some q → q < wr.heap.size)
    (hx : Below wr.heap.size wr wx) (hg : wx.grownBy w9 own) (hat : own = some g ∨ g = wx.heap.size) (hc : l.length ≤ c) (hA : A < wr.heap.size)
    (hl : l = [] ∨ ∃ b off, a = some ⟨b, off, none⟩ ∧ wr.heap.size ≤ b ∧ b < wx.heap.size ∧ At 3 wx b off (l.map ocell3)) : WIn w9 A (some g) (xs ++ [rcell (Wk.new l) a c]) (ls ++ [l]) := by
  have hs := hx.size
  have hs9 := hg.size
  refine ⟨by simp [h.1], fun i l' hl' => ?_⟩
  by_cases hi : i < ls.length
  · rw [List.getElem?_append_left hi] at hl'
    obtain ⟨a', c', h1, h2, h3⟩ := h.2 i l' hl'
    refine ⟨a', c', by rw [List.getElem?_append_left (by have := h.1; omega)]; exact h1, h2, ?_⟩
    rcases h3 with h3 | ⟨b, off, rfl, q1, q2, q3, q4⟩
    · exact .inl h3
    · refine .inr ⟨b, off, rfl, q1, by omega, ?_, (q4.agree (hx.block b q2)).agree (hg.block b (by omega) (fun e => q3 e.symm))⟩
      intro e
      cases e
      rcases hat with e | e
      · exact q3 e
      · omega
  · have hi2 : i = ls.length := by have := (List.getElem?_eq_some_iff.1 hl').1; simp at this; omega
    subst hi2
    rw [List.getElem?_append_right (Nat.le_refl _)] at hl'
    simp at hl'
    subst hl'
    refine ⟨a, c, by rw [List.getElem?_append_right (by rw [h.1]; exact Nat.le_refl _)]; simp [h.1], hc, ?_⟩
    rcases hl with e | ⟨b, off, rfl, q1, q2, q3⟩
    · exact .inl e
    · refine .inr ⟨b, off, rfl, by omega, by omega, ?_, q3.agree (hg.block b q2 (fun e => by have := hown b e.symm; omega))⟩
      intro e
      cases e
      rcases hat with e | e
      · have := hown _ e; omega
      · omega

theorem ownsRow_keep {w w' : World} {base n size : Nat} {e : TypeId} {v : Value} {xs : List Value} (h : w.ownsRow base e size v n xs) (hb : ∀ q, v.ownBlock = some q → w'.heap[q]? = w.heap[q]?) : w'.ownsRow base e size v n xs := by
  obtain ⟨h1, h2 | ⟨q, cap, cur, rfl, h3, h4, r⟩⟩ := h
  · exact ⟨h1, .inl h2⟩
  · exact ⟨h1, .inr ⟨q, cap, cur, rfl, h3, (hb q rfl).trans h4, r⟩⟩
theorem field_ok (k x y n : Int) (h : okB k x y n) (w : World) : (Instr.field 85 (begR k x y n) 1).run Tryd.prog w = .ok (.bool true) w := by
  rw [begR_yes h]; kernel_rfl
theorem field_no (k x y n : Int) (h : ¬ okB k x y n) (w : World) : (Instr.field 85 (begR k x y n) 1).run Tryd.prog w = .ok (.bool false) w := by
  rw [begR_no h]; kernel_rfl

theorem flatten_at : ∀ {xss : List (List Value)} (_ : ∀ y ∈ xss, y.length = 14) {i : Nat} {x : List Value} (_ : xss[i]? = some x) {j : Nat} {v : Value} (_ : x[j]? = some v), xss.flatten[i * 14 + j]? = some v
  | y :: r, hk, 0, x, hx, j, v, hv => by
    simp at hx; subst hx
    have hj := (List.getElem?_eq_some_iff.1 hv).1
    rw [List.flatten_cons, List.getElem?_append_left (by omega)]
    simpa using hv
  | y :: r, hk, i + 1, x, hx, j, v, hv => by
    have ih := flatten_at (xss := r) (fun z hz => hk z (by simp [hz])) (i := i) (x := x) (by simpa using hx) hv
    have h14 := hk y (by simp)
    rw [List.flatten_cons, List.getElem?_append_right (by omega), h14, ← ih]
    congr 1
    omega
theorem rows_of_owns {w : World} {base n : Nat} {e : TypeId} {v : Value} {xss : List (List Value)} (h : w.ownsRow base e 14 v n xss.flatten) (hn : 0 < n) (hl : xss.length = n) (hk : ∀ y ∈ xss, y.length = 14) :
    ∃ g cap, v = .slice (some ⟨g, 0, none⟩) n cap ∧ base ≤ g ∧ RowsIn 14 w g xss := by
  have hf := flatten14 hk
  obtain ⟨_, ⟨rfl, h0⟩ | ⟨g, cap, cur, rfl, hb, hg, hcap, _, hsz, ht⟩⟩ := h
  · omega
  · refine ⟨g, cap, rfl, hb, (Array.getElem?_eq_some_iff.1 hg).1, fun i x hx j u hu => ?_⟩
    have h1 := flatten_at hk hx hu
    refine ⟨?_, by simp [World.frozen?, hg]⟩
    rw [cell_of_row w g _ cur e (0, 0) hg]
    rw [← ht, List.getElem?_take] at h1
    split at h1
    · simpa using h1
    · cases h1
theorem wr_of_in {w w5 : World} {O D g : Nat} {xs : List (List Value)} {ls : List (List Opn)} (h : WIn w O (some g) xs ls) (hr : RowsIn 14 w g xs) (hb : Below w.heap.size w w5) (hO : O < g) (hD : w.heap.size ≤ D) : WR w5 O D g (ls.map Wk.new) xs := by
  have hg := hr.1
  refine ⟨by simp [h.1], hr.agree (hb.block g hg) hb.size, hO, by omega, fun i k hk => ?_⟩
  rw [List.getElem?_map] at hk
  cases hl : ls[i]? with
  | none => rw [hl] at hk; cases hk
  | some l =>
    rw [hl] at hk
    cases hk
    obtain ⟨a, c, h1, h2, h3⟩ := h.2 i l hl
    refine ⟨a, c, h1, h2, ?_⟩
    rcases h3 with h3 | ⟨b, off, rfl, q1, q2, q3, q4⟩
    · exact .inl h3
    · exact .inr ⟨b, off, rfl, q1, by omega, fun e => q3 (by rw [e]), q4.agree (hb.block b q2)⟩
theorem st_bound {pr xs : List Int} {n : Nat} {ss : List (List O3)} {t : Nat} (h : ∀ t', t' < t → on 0 (run pr xs (gm0 n (ss.map (valid n))) t').en ≠ []) : (run pr xs (gm0 n (ss.map (valid n))) t).tm = t ∧ t ≤ opsIn (ss.map (valid n)) * (16 * n + 1) ∧ GInv n pr (run pr xs (gm0 n (ss.map (valid n))) t) ∧ (run pr xs (gm0 n (ss.map (valid n))) t).ws.length = ss.length := by
  have hok : ∀ s ∈ ss.map (valid n), ∀ o ∈ s, o.ok n := by
    intro s hs o ho
    obtain ⟨q, _, rfl⟩ := List.mem_map.1 hs
    exact valid_ok o ho
  have h1 := run_wt (pr := pr) (picks := xs) hok t
  have h2 := (run_lin (pr := pr) (picks := xs) hok t h).1
  exact ⟨h2, by omega, run_inv (ginv0 hok) t, by rw [run_len]; simp⟩
theorem opsIn_val (n : Nat) (ss : List (List O3)) : opsIn (ss.map (valid n)) ≤ opsN ss := by
  unfold opsIn opsN
  rw [List.map_map]
  exact sum_le_map fun s _ => valid_length_le n s

/-- The state with another time and last one. -/
theorem RS.upd {w w' : World} {O D WB n lc : Nat} {c : Option Addr} {cc : Nat} {xs : List (List Value)} {ev : Value} {au : Option Addr} {cu lo hi : Nat} {g g' : Gm} (h : RS w O D WB n lc c cc xs ev au cu lo hi g) (ht : Two O D w w')
    (hb : Box w' O 30 [ev, .slice au n cu, .int .i64 (g'.tm : Int)]) (hp : Box w' D 88 [.slice c lc cc, .int .i64 ((min g'.tm lc : Nat) : Int), .int .i64 g'.last]) (hu : g'.up = g.up) (hw : g'.ws = g.ws) (hl : g'.l = g.l) : RS w' O D WB n lc c cc xs ev au cu lo hi g' := by
  have hd := h.ds
  have ho := h.od
  have hag : ∀ b, b < w.heap.size → b ≠ O → b ≠ D → w'.heap[b]? = w.heap[b]? := fun b h1 h2 h3 => ht.block b h1 h2 h3
  refine ⟨hb, hp, ?_, Nat.le_trans h.uh ht.size, h.us, ?_, ?_, ho, Nat.lt_of_lt_of_le hd ht.size⟩
  · rw [hu]
    exact h.up.agree fun b b1 b2 => hag b (by have := h.uh; omega) (by have := (h.us b b1 b2).1; omega) (by have := (h.us b b1 b2).1; omega)
  · rw [hw]
    exact h.rows.agree (fun b b1 b2 => hag b (by omega) (by omega) (by omega)) ht.size
  · rw [hl]
    refine ownsRow_keep h.evs fun q hq => ?_
    have := h.evs.lt q hq
    exact hag q this.2 (by omega) (by omega)
theorem RowsIn.c14 {w : World} {b i : Nat} {xs : List (List Value)} {C0 C1 C2 C3 C4 C5 C6 C7 C8 C9 C10 C11 C12 C13 : Value} (h : RowsIn 14 w b xs) (hx : xs[i]? = some [C0, C1, C2, C3, C4, C5, C6, C7, C8, C9, C10, C11, C12, C13]) :
    w.cell? ⟨b, i * 14, none⟩ = some C0 ∧ w.cell? ⟨b, i * 14 + 1, none⟩ = some C1 ∧ w.cell? ⟨b, i * 14 + 2, none⟩ = some C2 ∧ w.cell? ⟨b, i * 14 + 3, none⟩ = some C3 ∧ w.cell? ⟨b, i * 14 + 4, none⟩ = some C4 ∧ w.cell? ⟨b, i * 14 + 5, none⟩ = some C5 ∧ w.cell? ⟨b, i * 14 + 6, none⟩ = some C6 ∧ w.cell? ⟨b, i * 14 + 7, none⟩ = some C7 ∧ w.cell? ⟨b, i * 14 + 8, none⟩ = some C8 ∧ w.cell? ⟨b, i * 14 + 9, none⟩ = some C9 ∧ w.cell? ⟨b, i * 14 + 10, none⟩ = some C10 ∧ w.cell? ⟨b, i * 14 + 11, none⟩ = some C11 ∧ w.cell? ⟨b, i * 14 + 12, none⟩ = some C12 ∧ w.cell? ⟨b, i * 14 + 13, none⟩ = some C13 :=
  ⟨by have := (h.2 i _ hx 0 _ rfl).1; simpa using this, (h.2 i _ hx 1 _ rfl).1, (h.2 i _ hx 2 _ rfl).1, (h.2 i _ hx 3 _ rfl).1, (h.2 i _ hx 4 _ rfl).1, (h.2 i _ hx 5 _ rfl).1, (h.2 i _ hx 6 _ rfl).1, (h.2 i _ hx 7 _ rfl).1, (h.2 i _ hx 8 _ rfl).1, (h.2 i _ hx 9 _ rfl).1, (h.2 i _ hx 10 _ rfl).1, (h.2 i _ hx 11 _ rfl).1, (h.2 i _ hx 12 _ rfl).1, (h.2 i _ hx 13 _ rfl).1⟩
theorem field_t5 (k x y st u v ww r res : Int) (dn ok : Bool) (w : World) : (Instr.field 85 (.agg #[.int .i64 k, .int .i64 x, .int .i64 y, .int .i64 st, .int .i64 u, .int .i64 v, .int .i64 ww, .int .i64 r, .bool dn, .int .i64 res, .bool ok]) 0).run Tryd.prog w = .ok (.agg #[.int .i64 k, .int .i64 x, .int .i64 y, .int .i64 st, .int .i64 u, .int .i64 v, .int .i64 ww, .int .i64 r, .bool dn, .int .i64 res]) w := by kernel_rfl
theorem run_skip3 {P : Program} {t : TypeId} (ht : P.underlying t = some (.slice (P.elem t))) (hs : (P.info? (P.elem t)).map (fun i => i.size) = some 3) (b off len cap : Nat) (hl : 1 ≤ len) (hc : len ≤ cap) :
    ∃ a', (1 < len → a' = some ⟨b, off + 3, none⟩) ∧ ∀ w, (Instr.slice t (.slice (some ⟨b, off, none⟩) len cap) (some (.int .i64 1)) none none).run P w = .ok (.slice a' (len - 1) (cap - 1)) w := by
  refine ⟨if cap = 1 then some ⟨b, off, none⟩ else some ⟨b, off + 3, none⟩, fun h => by rw [if_neg (by omega)], fun w => ?_⟩
  have := run_slice_l (P := P) w t (some ⟨b, off, none⟩) len cap ht .i64 1 (by omega) (by omega)
  have this : (Instr.slice t (.slice (some ⟨b, off, none⟩) len cap) (some (.int .i64 1)) none none).run P w = _ := this
  rw [this]
  obtain ⟨i, hi, he⟩ := Option.map_eq_some_iff.1 hs
  simp [sizeOf, typeInfo, hi, he, sliced, Result.andThen]
  split <;> simp_all [Addr.add]
theorem Box.f14 {w : World} {b : Nat} {t : TypeId} {cs : List Value} (h : Box w b t cs) : w.frozen? ⟨b, 0, none⟩ = false ∧ w.frozen? ⟨b, 1, none⟩ = false ∧ w.frozen? ⟨b, 12, none⟩ = false ∧ w.frozen? ⟨b, 13, none⟩ = false := ⟨h.frozen 0, h.frozen 1, h.frozen 12, h.frozen 13⟩
theorem okB_ok {n : Nat} {o : Opn} (h : o.ok n) : okB (o.k : Int) (o.x : Int) o.y (n : Int) := by
  obtain ⟨h1, h2, h3, h4⟩ := h
  exact ⟨by omega, by omega, ⟨by omega, by omega⟩, fun hk => h4 (by omega)⟩
/-- The state with new cells. -/
theorem RS.newup {w : World} {O D WB n lc : Nat} {c : Option Addr} {cc : Nat} {xs : List (List Value)} {ev : Value} {au : Option Addr} {cu lo hi : Nat} {g : Gm} (h : RS w O D WB n lc c cc xs ev au cu lo hi g) {g9 c9 : Nat} {up : List Nat} (hown : Own w g9 up) (hl : up.length = n) (hD : D < g9) (hev : ∀ q, ev.ownBlock = some q → q ≠ g9) :
    RS (w.setCell ⟨O, 1, none⟩ (.slice (some ⟨g9, 0, none⟩) n c9)) O D WB n lc c cc xs ev (some ⟨g9, 0, none⟩) c9 g9 (g9 + 1) { g with up := up } := by
  have hd := h.ds
  have ho := h.od
  have hu := hown.1
  have hne : ∀ b, b ≠ O → (w.setCell ⟨O, 1, none⟩ (.slice (some ⟨g9, 0, none⟩) n c9)).heap[b]? = w.heap[b]? := fun b hb => Below.heap_setCell w ⟨O, 1, none⟩ _ b hb
  have hsz : (w.setCell ⟨O, 1, none⟩ (.slice (some ⟨g9, 0, none⟩) n c9)).heap.size = w.heap.size := by simp
  refine ⟨h.box.set 1 _, h.pb.setOther (a := ⟨O, 1, none⟩) (by show D ≠ O; omega) _, ?_, by rw [hsz]; omega, fun b b1 b2 => ⟨.inr (by omega), fun e => hev b e (by omega)⟩, h.rows.agree (fun b b1 b2 => hne b (by omega)) (by rw [hsz]; exact Nat.le_refl _), ownsRow_keep h.evs fun q hq => hne q (by have := h.evs.lt q hq; omega), ho, by rw [hsz]; exact hd⟩
  exact (hown.row hl (Nat.le_refl _) (Nat.lt_succ_self _)).agree fun b b1 b2 => hne b (by omega)
theorem Box.c11 {w : World} {b : Nat} {t : TypeId} {C0 C1 C2 C3 C4 C5 C6 C7 C8 C9 C10 : Value} (h : Box w b t [C0, C1, C2, C3, C4, C5, C6, C7, C8, C9, C10]) : w.cell? ⟨b, 0, none⟩ = some C0 ∧ w.cell? ⟨b, 1, none⟩ = some C1 ∧ w.cell? ⟨b, 2, none⟩ = some C2 ∧ w.cell? ⟨b, 3, none⟩ = some C3 ∧ w.cell? ⟨b, 4, none⟩ = some C4 ∧ w.cell? ⟨b, 5, none⟩ = some C5 ∧ w.cell? ⟨b, 6, none⟩ = some C6 ∧ w.cell? ⟨b, 7, none⟩ = some C7 ∧ w.cell? ⟨b, 8, none⟩ = some C8 ∧ w.cell? ⟨b, 9, none⟩ = some C9 ∧ w.cell? ⟨b, 10, none⟩ = some C10 :=
  ⟨h.cell 0, h.cell 1, h.cell 2, h.cell 3, h.cell 4, h.cell 5, h.cell 6, h.cell 7, h.cell 8, h.cell 9, h.cell 10⟩
/-- A block behind the state's own is another one. -/
theorem RS.two {w w' : World} {O D WB V n lc : Nat} {c : Option Addr} {cc : Nat} {xs : List (List Value)} {ev : Value} {au : Option Addr} {cu lo hi : Nat} {g : Gm} (h : RS w O D WB n lc c cc xs ev au cu lo hi g) (ht : Two V V w w') (hV : D < V) (hup : V < lo) (hev : ∀ q, ev.ownBlock = some q → q ≠ V) : RS w' O D WB n lc c cc xs ev au cu lo hi g := by
  have hd := h.ds
  have ho := h.od
  refine ⟨ht.box h.box (by omega) (by omega), ht.box h.pb (by omega) (by omega), h.up.agree (fun b b1 b2 => ht.block b (by have := h.uh; omega) (by omega) (by omega)), Nat.le_trans h.uh ht.size, h.us, h.rows.agree (fun b b1 b2 => ht.block b (by omega) (by omega) (by omega)) ht.size, ownsRow_keep h.evs fun q hq => ht.block q (h.evs.lt q hq).2 (hev q hq) (hev q hq), ho, Nat.lt_of_lt_of_le hd ht.size⟩
/-- The worker's row is stored. -/
theorem RS.store {w w' : World} {O D WB n lc : Nat} {c : Option Addr} {cc : Nat} {xs : List (List Value)} {ev : Value} {au : Option Addr} {cu lo hi : Nat} {g : Gm} (h : RS w O D WB n lc c cc xs ev au cu lo hi g) {x : Nat} {k : Wk} {a : Option Addr} {c7 : Nat} (hr : RowsIn 14 w' WB (xs.set x (rcell k a c7))) (ht : Two WB WB w w') (hx : x < g.ws.length) (hc : k.left.length ≤ c7) (hl : LeftAt w O D WB a k.left) :
    RS w' O D WB n lc c cc (xs.set x (rcell k a c7)) ev au cu lo hi { g with ws := g.ws.set x k } := by
  have hd := h.ds
  have ho := h.od
  have h1 := h.rows.a
  have h2 := h.rows.d
  refine ⟨ht.box h.box (by omega) (by omega), ht.box h.pb (by omega) (by omega), h.up.agree (fun b b1 b2 => ht.block b (by have := h.uh; omega) (by have := (h.us b b1 b2).1; omega) (by have := (h.us b b1 b2).1; omega)), Nat.le_trans h.uh ht.size, h.us, h.rows.set hr ht hx (Nat.le_of_lt hd) hc hl, ownsRow_keep h.evs fun q hq => ht.block q (h.evs.lt q hq).2 (by have := (h.evs.lt q hq).1; omega) (by have := (h.evs.lt q hq).1; omega), ho, Nat.lt_of_lt_of_le hd ht.size⟩
theorem run_lens {pr picks : List Int} {g : Gm} : ∀ t, (run pr picks g t).l.length ≤ g.l.length + t
  | 0 => Nat.le_refl _
  | t + 1 => by
    have ih := run_lens (pr := pr) (picks := picks) (g := g) t
    show (if on 0 (run pr picks g t).en = [] then run pr picks g t else adv pr (run pr picks g t) ((run pr picks g t).who picks)).l.length ≤ _
    split
    · omega
    · unfold adv
      dsimp only
      split
      · rw [List.length_append]; simp; omega
      · omega
/-- An event more. -/
theorem RS.newev {w W w9 : World} {O D WB n lc : Nat} {c : Option Addr} {cc : Nat} {xs : List (List Value)} {ev : Value} {au : Option Addr} {cu lo hi : Nat} {g : Gm} (h : RS w O D WB n lc c cc xs ev au cu lo hi g) {gq cq : Nat} {e : Ev} (hW : Below w.heap.size w W) (hg : W.grownBy w9 ev.ownBlock) (ho : w9.ownsRow (D + 1) 42 8 (.slice (some ⟨gq, 0, none⟩) (g.l.length + 1) cq) (g.l.length + 1) (cellsE g.l ++ ecells e)) (hat : ev.ownBlock = some gq ∨ gq = W.heap.size) :
    RS (w9.setCell ⟨O, 0, none⟩ (.slice (some ⟨gq, 0, none⟩) (g.l.length + 1) cq)) O D WB n lc c cc xs (.slice (some ⟨gq, 0, none⟩) (g.l.length + 1) cq) au cu lo hi { g with l := g.l ++ [e] } := by
  have hd := h.ds
  have hod := h.od
  have hlt := h.evs.lt
  have hs1 := hW.size
  have hs2 := hg.size
  have hk9 : ∀ b, b < w.heap.size → ev.ownBlock ≠ some b → w9.heap[b]? = w.heap[b]? := fun b h1 h2 => by
    rw [hg.block b (by omega) (fun e => h2 e.symm), hW.block b h1]
  have hk : ∀ b, b < w.heap.size → ev.ownBlock ≠ some b → b ≠ O → (w9.setCell ⟨O, 0, none⟩ (.slice (some ⟨gq, 0, none⟩) (g.l.length + 1) cq)).heap[b]? = w.heap[b]? := fun b h1 h2 h3 => by
    rw [Below.heap_setCell _ ⟨O, 0, none⟩ _ b h3, hk9 b h1 h2]
  have hsz : (w9.setCell ⟨O, 0, none⟩ (.slice (some ⟨gq, 0, none⟩) (g.l.length + 1) cq)).heap.size = w9.heap.size := by simp
  have hlow : ∀ b, b ≤ D → ev.ownBlock ≠ some b := fun b hb e => by have := (hlt b e).1; omega
  refine ⟨?_, (hk D hd (hlow D (Nat.le_refl _)) (by omega)).trans h.pb, h.up.agree (fun b b1 b2 => hk b (by have := h.uh; omega) (h.us b b1 b2).2 (by have := (h.us b b1 b2).1; omega)), by rw [hsz]; have := h.uh; omega, fun b b1 b2 => ⟨(h.us b b1 b2).1, fun e => ?_⟩, h.rows.agree (fun b _ b2 => hk b (by omega) (hlow b (by omega)) (by omega)) (by rw [hsz]; omega), ?_, hod, by rw [hsz]; omega⟩
  · have hb : Box w9 O 30 [ev, .slice au n cu, .int .i64 (g.tm : Int)] := (hk9 O (by omega) (hlow O (by omega))).trans h.box
    exact hb.set 0 _
  · have e2 : gq = b := by simpa [Value.ownBlock] using e
    subst e2
    rcases hat with q | q
    · exact (h.us gq b1 b2).2 q
    · have := h.uh; omega
  · have h1 := ownsRow_keep (w' := w9.setCell ⟨O, 0, none⟩ (.slice (some ⟨gq, 0, none⟩) (g.l.length + 1) cq)) ho fun q hq => Below.heap_setCell _ ⟨O, 0, none⟩ _ q (by
      have := (ho.lt q hq).1
      show q ≠ O; omega)
    show World.ownsRow _ _ _ _ _ (g.l ++ [e]).length (cellsE (g.l ++ [e]))
    rw [cellsE_snoc, List.length_append]
    exact h1
theorem Tryd.peventInfo1 : (Tryd.prog.info? 42).map (fun i => (i.zero, i.size, i.bytes)) = some (some (.agg #[.int .i64 0, .int .i64 0, .int .i64 0, .int .i64 0, .int .i64 0, .int .i64 0, .int .i64 0, .int .i64 0]), 8, 64) := by kernel_rfl
theorem Tryd.boolInfo1 : (Tryd.prog.info? 4).map (fun i => (i.zero, i.size, i.bytes)) = some (some (.bool false), 1, 1) := by kernel_rfl
/-- Who is enabled, so far. -/
def enL (en : List Bool) (j r : Nat) : List Value := (en.take j ++ List.replicate (r - j) false).map Value.bool
theorem enL_zero (en : List Bool) (r : Nat) : enL en 0 r = List.replicate r (Value.bool false) := by simp [enL]
theorem enL_set {en : List Bool} {j r : Nat} (h : en.length = r) (hj : j < r) {v : Bool} (hv : en[j]? = some v) : (enL en j r).set j (.bool v) = enL en (j + 1) r := by
  unfold enL
  rw [show r - j = (r - (j + 1)) + 1 by omega, List.replicate_succ, List.map_append, List.map_append, List.map_cons, List.set_append_right _ _ (by simp; omega), List.length_map, List.length_take, show j - min j en.length = 0 by omega, List.set_cons_zero, List.take_add_one, hv]
  simp
theorem enL_all {en : List Bool} {r : Nat} (h : en.length = r) : enL en r r = en.map Value.bool := by
  unfold enL; rw [List.take_of_length_le (by omega)]; simp
theorem enL_length {en : List Bool} {j r : Nat} (h : en.length = r) (hj : j ≤ r) : (enL en j r).length = r := by
  unfold enL; simp; omega
theorem rowB_box {w : World} {b : Nat} {t : TypeId} {en : List Bool} {r : Nat} (h : Box w b t (en.map Value.bool)) (hl : en.length = r) : RowB 0 w.heap.size w (some ⟨b, 0, none⟩) r en := by
  refine ⟨hl, .inr ⟨b, 0, rfl, Nat.zero_le _, h.lt, fun i hi => ?_⟩⟩
  rw [Nat.zero_add, h.cell i, List.getElem?_map, List.getElem?_eq_getElem (by omega)]
  simp [List.getD, show i < en.length by omega]

set_option maxRecDepth 100000 in
set_option maxHeartbeats 16000000 in
theorem rplay_some (a b c : Option Addr) (la ca lb cb lc cc : Nat) (pr xs : List Int) (ss : List (List O3)) (w : World) {lp hp ls lx hx : Nat} (hpr : Row lp hp w a la pr) (hp1 : hp ≤ w.heap.size) (hs : Scr ls w b lb ss) (hs1 : ls ≤ w.heap.size) (hxs : Row lx hx w c lc xs) (hx1 : hx ≤ w.heap.size)
    (hm1 : la ≤ 4096) (hm2 : lb ≤ 64) (hm3 : opsN ss ≤ 4096) (hm4 : lc ≤ 100000) (hlb : 0 < lb) :
    Calls Tryd.prog 13 #[.slice a la ca, .slice b lb cb, .slice c lc cc] w fun e w' => ∃ (T cu : Nat) (ev : Value) (au : Option Addr), e = .returned (.agg #[ev, .slice au la cu, .int .i64 (T : Int)]) ∧
      ((∀ t, t < T → on 0 (run pr xs (gm0 la (ss.map (valid la))) t).en ≠ []) ∧ on 0 (run pr xs (gm0 la (ss.map (valid la))) T).en = []) ∧
      w'.ownsRow w.heap.size 42 8 ev (run pr xs (gm0 la (ss.map (valid la))) T).l.length (cellsE (run pr xs (gm0 la (ss.map (valid la))) T).l) ∧ RowN 0 w'.heap.size w' au la (run pr xs (gm0 la (ss.map (valid la))) T).up ∧ Below w.heap.size w w' := by
  obtain ⟨i0, hi0, hz0, hz1, hz2⟩ := info_parts Tryd.workInfo
  obtain ⟨j0, hj0, hy0, hy1, hy2⟩ := info_parts Tryd.opInfo
  have hsl : ss.length = lb := hs.1
  have hxl : xs.length = lc := hxs.1
  have HS := Lib.hid hs
  have HPR := Lib.hid hpr
  have HX := Lib.hid hxs
  have HSL := Lib.hid hsl
  have HXL := Lib.hid hxl
  have HM3 := Lib.hid hm3
  clear hs hpr hxs hsl hxl hm3
  go_enter Tryd.func13, Tryd.ntmps13
  go_wp2_with fail
  have hk0 : Below w.heap.size w (w.alloc (.cells #[.slice none 0 0, .slice none 0 0, .int .i64 0] 30)) := by go_grown
  have bR := Box.new w 30 [.slice none 0 0, .slice none 0 0, .int .i64 0]
  have hs0 : w.heap.size < (w.alloc (.cells #[.slice none 0 0, .slice none 0 0, .int .i64 0] 30)).heap.size := by simp
  simp only [List.toArray] at bR
  generalize w.alloc (.cells #[.slice none 0 0, .slice none 0 0, .int .i64 0] 30) = w0 at *
  have HK0 := Lib.hid hk0
  have HBR := Lib.hid bR
  clear hk0 bR
  go_loopg [8, 9] (lb) (fun gn s i wr => ∃ k : Nat, gn + k ≤ lb ∧ lb ≤ gn + k ∧ i = .int .i64 (k : Int) ∧ s = .int .i64 ((opsN (ss.take k) : Nat) : Int) ∧ w0 = wr)
  case atStart => exact ⟨0, by omega, by omega, rfl, by simp [opsN], rfl⟩
  case round =>
    obtain ⟨k, hk1, hk2, rfl, rfl, rfl⟩ := hrel
    by_cases hlt : k < lb
    · obtain ⟨bb, off, rfl, hb, hc⟩ := HS.out.2.resolve_left (by omega)
      obtain ⟨s, hsk⟩ : ∃ s, ss[k]? = some s := ⟨_, List.getElem?_eq_getElem (by have := HSL.out; omega)⟩
      obtain ⟨a4, c4, h4, _⟩ := hc k s hsk
      have h4 := (HK0.out.cell (p := ⟨bb, off + k, none⟩) (show bb < w.heap.size by omega)).trans h4
      have e1 := opsN_take ss k s hsk
      have e2 := opsN_le ss (k + 1)
      have e3 := HM3.out
      obtain ⟨q, hq⟩ : ∃ q, opsN (ss.take (k + 1)) = q := ⟨_, rfl⟩
      obtain ⟨p, hp⟩ : ∃ p, opsN (ss.take k) = p := ⟨_, rfl⟩
      obtain ⟨m, hm'⟩ : ∃ m, s.length = m := ⟨_, rfl⟩
      have HQ := Lib.hid hq
      rw [hm'] at h4
      rw [hq, hp, hm'] at e1
      rw [hq] at e2
      rw [hp]
      have e6 : q ≤ 4096 := by omega
      have E1 := Lib.hid e1
      have hpm : (p : Int) + (m : Int) ≤ 4096 := by omega
      have hbw0 : bb < w0.heap.size := by omega
      clear hc hsk hq hp hm' e1 e2 e3
      go_wp2_with fail
      go_roundg (lb - (k + 1))
      case measure => omega
      case rel => exact ⟨k + 1, by omega, by omega, by go_num, by rw [HQ.out, E1.out]; congr 1, rfl⟩
    · obtain rfl : k = lb := by omega
      have e : ss.take k = ss := List.take_of_length_le (by rw [HSL.out]; exact Nat.le_refl _)
      rw [e]
      obtain ⟨al, hal⟩ : ∃ al, opsN ss = al := ⟨_, rfl⟩
      have hal2 : al ≤ 4096 := by rw [← hal]; exact HM3.out
      rw [hal]
      have HAL := Lib.hid hal
      clear e hal hk1 hk2
      go_wp2_with fail
      refine (rnew_any (la : Int) w0).mono ?_
      rw [cutN_nat (by omega)]
      rintro e w1 ⟨au, cu, rfl, hup, hun, hb1⟩
      have s1 := hb1.size
      have HUP := Lib.hid hup
      have HB1 : Hid (Below w.heap.size w w1) := HK0.out.trans (hb1.mono (by omega))
      have HBR1 : Hid (Box w1 w.heap.size 30 [.slice none 0 0, .slice none 0 0, .int .i64 0]) := HBR.out.below hb1
      clear hup hun hb1
      go_wp2_with fail
      have hb2 : Below w1.heap.size w1 (w1.alloc (.cells #[.slice none 0 0, .slice au la cu, .int .i64 0] 30)) := by go_grown
      have bO := Box.new w1 30 [.slice none 0 0, .slice au la cu, .int .i64 0]
      have s2 : (w1.alloc (.cells #[.slice none 0 0, .slice au la cu, .int .i64 0] 30)).heap.size = w1.heap.size + 1 := World.size_alloc _ _
      simp only [List.toArray] at bO
      generalize w1.alloc (.cells #[.slice none 0 0, .slice au la cu, .int .i64 0] 30) = w2 at *
      have HBO := Lib.hid bO
      have HBR2 : Hid (Box w2 w.heap.size 30 [.slice none 0 0, .slice none 0 0, .int .i64 0]) := HBR1.out.below hb2
      have HUP2 : Hid (RowN w0.heap.size w1.heap.size w2 au la (List.range la)) := HUP.out.below hb2 (Nat.le_refl _)
      have HB2 : Hid (Below w.heap.size w w2) := HB1.out.trans (hb2.mono (by omega))
      have hO2 : w1.heap.size < w2.heap.size := by omega
      have HS2' := Lib.hid s2
      clear hb2 bO s2 HBR HBR1 HUP HB1
      go_loopg [11, 12] (k) (fun gn v i wr => ∃ (r : Nat) (ws : List (List Value)), gn + r ≤ k ∧ k ≤ gn + r ∧ i = .int .i64 (r : Int) ∧ Hid (wr.ownsRow w2.heap.size 83 14 v r ws.flatten) ∧ Hid (WIn wr w1.heap.size v.ownBlock ws ((ss.take r).map (valid la))) ∧ Hid (Below w2.heap.size w2 wr))
      case atStart => exact ⟨0, [], by omega, by omega, rfl, World.ownsRow_nil _ _ _ _, ⟨rfl, fun i l h => by simp at h⟩, Below.refl _ _⟩
      case round =>
        rename World => wo
        obtain ⟨r, ws, hr1, hr2, rfl, HOW, HIN, HW⟩ := hrel
        have sr := HW.out.size
        by_cases hrk : r < k
        · obtain ⟨bb, off, rfl, hb, hc⟩ := HS.out.2.resolve_left (by omega)
          obtain ⟨s, hsk⟩ : ∃ s, ss[r]? = some s := ⟨_, List.getElem?_eq_getElem (by have := HSL.out; omega)⟩
          obtain ⟨a4, c4, h4, hops⟩ := hc r s hsk
          have HBW : Hid (Below w.heap.size w wo) := HB2.out.trans (HW.out.mono (by omega))
          obtain ⟨m, hm'⟩ : ∃ m, s.length = m := ⟨_, rfl⟩
          rw [hm'] at h4 hops
          have hmm : m ≤ 4096 := by
            have e1 := opsN_take ss r s hsk
            have e2 := opsN_le ss (r + 1)
            have e3 := HM3.out
            omega
          have HOPS := Lib.hid hops
          have HSK := Lib.hid hsk
          have HML := Lib.hid hm'
          have H4 := Lib.hid h4
          have hbw : bb < w.heap.size := by omega
          clear hc hsk hm' h4 hops
          go_wp2_with fail
          have kV : Below wo.heap.size wo (wo.alloc (.cells #[.slice none 0 0, .bool false, .int .i64 0, .int .i64 0, .int .i64 0, .int .i64 0, .int .i64 0, .int .i64 0, .int .i64 0, .int .i64 0, .bool false, .int .i64 0, .int .i64 0, .int .i64 0] 83)) := by go_grown
          have bV := Box.new wo 83 (.slice none 0 0 :: zeros13)
          have sV : (wo.alloc (.cells #[.slice none 0 0, .bool false, .int .i64 0, .int .i64 0, .int .i64 0, .int .i64 0, .int .i64 0, .int .i64 0, .int .i64 0, .int .i64 0, .bool false, .int .i64 0, .int .i64 0, .int .i64 0] 83)).heap.size = wo.heap.size + 1 := World.size_alloc _ _
          simp only [List.toArray, zeros13] at bV
          generalize wo.alloc (.cells #[.slice none 0 0, .bool false, .int .i64 0, .int .i64 0, .int .i64 0, .int .i64 0, .int .i64 0, .int .i64 0, .int .i64 0, .int .i64 0, .bool false, .int .i64 0, .int .i64 0, .int .i64 0] 83) = wV at *
          have BV : Hid (Box wV wo.heap.size 83 (.slice none 0 0 :: zeros13)) := bV
          have KV := Lib.hid kV
          have SV : Hid (wo.heap.size + 1 ≤ wV.heap.size) := by show _ ≤ _; omega
          clear bV kV sV
          go_loopg [14] (m) (fun gn i wr => ∃ (j mm : Nat) (lv : Value), gn + j ≤ m ∧ m ≤ gn + j ∧ i = .int .i64 (j : Int) ∧ mm ≤ j ∧ Hid (Box wr wo.heap.size 83 (lv :: zeros13)) ∧ Hid (wr.ownsRow (wo.heap.size + 1) 40 3 lv mm ((valid la (s.take j)).flatMap ocell3)) ∧ Hid (mm = (valid la (s.take j)).length) ∧ Hid (Below wo.heap.size wo wr))
          case atStart => exact ⟨0, 0, .slice none 0 0, by omega, by omega, rfl, Nat.zero_le _, BV.out, World.ownsRow_nil _ _ _ _, rfl, KV.out⟩
          case round =>
            obtain ⟨j, mm, lv, hj1, hj2, rfl, hmj, HBX, HLV, HMM, HX⟩ := hrel
            have sx := HX.out.size
            have HBWX : Hid (Below w.heap.size w wr) := HBW.out.trans (HX.out.mono (by have := HBW.out.size; omega))
            have swx := HBWX.out.size
            have d4 := (HBWX.out.cell (p := ⟨bb, off + r, none⟩) (show bb < w.heap.size by omega)).trans H4.out
            have hbwx : bb < wr.heap.size := by omega
            have hVx := HBX.out.lt
            by_cases hjm : j < m
            · obtain ⟨bo, oo, rfl, _, hbo, hco⟩ := HOPS.out.at (by omega)
              obtain ⟨q, hq⟩ : ∃ q, s[j]? = some q := ⟨_, List.getElem?_eq_getElem (by have := HML.out; omega)⟩
              obtain ⟨c0, c1, c2⟩ := hco.three hq
              have d0 := (HBWX.out.cell (p := ⟨bo, oo + j * 3, none⟩) (show bo < w.heap.size by omega)).trans c0
              have d1 := (HBWX.out.cell (p := ⟨bo, oo + j * 3 + 1, none⟩) (show bo < w.heap.size by omega)).trans c1
              have d2 := (HBWX.out.cell (p := ⟨bo, oo + j * 3 + 2, none⟩) (show bo < w.heap.size by omega)).trans c2
              have hbow : bo < wr.heap.size := by omega
              have ht : s.take (j + 1) = s.take j ++ [q] := by rw [List.take_add_one, hq]; rfl
              have hv := valid_snoc la (s.take j) q
              rw [← ht] at hv
              obtain ⟨ok, ox, oy⟩ := q
              dsimp only at d0 d1 d2 hv
              have HBG := fun w' => rbegin_any ok ox oy (la : Int) w'
              have HBG := Lib.hid HBG
              obtain ⟨bg, hbg⟩ : ∃ v, begR ok ox oy (la : Int) = v := ⟨_, rfl⟩
              clear hco hq c0 c1 c2 ht
              by_cases ho : okB ok ox oy (la : Int)
              · rw [if_pos ho] at hv
                have HFD : ∀ W, (Instr.field 85 bg 1).run Tryd.prog W = .ok (.bool true) W := fun W => by rw [← hbg]; exact field_ok ok ox oy la ho W
                have hoc : ocell3 (toOpn (ok, ox, oy)) = [.int .i64 ok, .int .i64 ox, .int .i64 oy] := by
                  obtain ⟨_, h1, h2, h3⟩ := okB_opn (q := (ok, ox, oy)) ho
                  unfold ocell3
                  rw [h1, h2, h3]
                have HV := Lib.hid hv
                have HOC := Lib.hid hoc
                have HBGV := Lib.hid hbg
                clear hv hoc ho hbg
                go_wp2_with fail
                refine (HBG.out _).mono ?_
                rw [HBGV.out]
                rintro e w3 ⟨rfl, hb3⟩
                have s3 := hb3.size
                have HX3 : Hid (Below wo.heap.size wo w3) := HX.out.trans (hb3.mono (by omega))
                have HB3V : Hid (Box w3 wo.heap.size 83 (lv :: zeros13)) := HBX.out.below hb3
                have HLV3 : Hid (w3.ownsRow (wo.heap.size + 1) 40 3 lv mm ((valid la (s.take j)).flatMap ocell3)) := ownsRow_below HLV.out hb3
                have z0 := HB3V.out.cell 0
                have z1 := HB3V.out.frozen 0
                simp only [List.getElem?_cons_zero] at z0
                have hV3 : wo.heap.size < w3.heap.size := by omega
                have e4 := (hb3.cell (p := ⟨bb, off + r, none⟩) (show bb < wr.heap.size by omega)).trans d4
                have e0 := (hb3.cell (p := ⟨bo, oo + j * 3, none⟩) (show bo < wr.heap.size by omega)).trans d0
                have e1 := (hb3.cell (p := ⟨bo, oo + j * 3 + 1, none⟩) (show bo < wr.heap.size by omega)).trans d1
                have e2 := (hb3.cell (p := ⟨bo, oo + j * 3 + 2, none⟩) (show bo < wr.heap.size by omega)).trans d2
                have hb3b : bb < w3.heap.size := by omega
                have hb3o : bo < w3.heap.size := by omega
                have HN : Hid (∀ (W : World) (q : Nat) (u : Value), ([.int .i64 ok, .int .i64 ox, .int .i64 oy] : List Value)[q]? = some u → (W.alloc (.cells #[.int .i64 ok, .int .i64 ox, .int .i64 oy] 40)).cell? (Addr.add ⟨W.heap.size, 0, none⟩ q) = some u) := fun W q u hq =>
                  World.news_of_block (w := W.alloc (.cells #[.int .i64 ok, .int .i64 ox, .int .i64 oy] 40)) (B := W.heap.size) (cs := #[.int .i64 ok, .int .i64 ox, .int .i64 oy]) (Box.new W 40 [.int .i64 ok, .int .i64 ox, .int .i64 oy]) q u (by simpa using hq)
                have HONE : Hid (∀ v ∈ ([.int .i64 ok, .int .i64 ox, .int .i64 oy] : List Value), v.oneCell' = true) := by
                  intro v hv
                  simp at hv
                  rcases hv with rfl | rfl | rfl <;> rfl
                have Q1 : Hid (mm + 1 ≤ maxLen) := by unfold maxLen; show _ ≤ _; omega
                have Q2 : Hid ((mm + 1) * 24 ≤ 140737488355328) := by show _ ≤ _; omega
                have Q3 : Hid (wo.heap.size + 1 ≤ w3.heap.size) := by show _ ≤ _; have := SV.out; have := KV.out.size; omega
                have HNE : Hid (some wo.heap.size ≠ lv.ownBlock) := fun e => by have := (HLV.out.lt _ e.symm).1; omega
                have HB3 := Lib.hid hb3
                clear hb3 d0 d1 d2 d4
                go_wp2_with fail
                go_region_law (refine step_append_lies _ rfl _ _ _ rfl (wo.heap.size + 1) 40 j0 (.agg #[.int .i64 0, .int .i64 0, .int .i64 0]) 3 24 Tryd.underlying43 hj0 hy0 hy1 hy2 rfl (by decide) _ mm ((valid la (s.take j)).flatMap ocell3) rfl (HLV3.out.alloc _) ⟨w3.heap.size, 0, none⟩ 1 1 [.int .i64 ok, .int .i64 ox, .int .i64 oy] rfl rfl (HN.out _) HONE.out (by decide) Q1.out Q2.out (by simpa using Nat.le_succ_of_le Q3.out) _ rfl ?_; intro g9 cap w9 hown9 hgrow hat hlt9; have z9 := HB3V.out.drew.alloc (.cells #[.int .i64 ok, .int .i64 ox, .int .i64 oy] 40) |>.grown hgrow HNE.out; have z5 := z9.cell 0; have z7 := z9.frozen 0; simp only [List.getElem?_cons_zero] at z5; have z6 := z9.lt)
                all_goals (
                  have HX9 : Hid (Below wo.heap.size wo (w9.setCell ⟨wo.heap.size, 0, none⟩ (.slice (some ⟨g9, 0, none⟩) (mm + 1) cap))) := ((HX3.out.drew.alloc (by show _ ≤ w3.heap.size; omega) _).grown hgrow (by simp; omega) (fun q hq => by have := (HLV.out.lt q hq).1; omega)).setCell (p := ⟨wo.heap.size, 0, none⟩) (Nat.le_refl _) _
                  have HB9 : Hid (Box (w9.setCell ⟨wo.heap.size, 0, none⟩ (.slice (some ⟨g9, 0, none⟩) (mm + 1) cap)) wo.heap.size 83 (.slice (some ⟨g9, 0, none⟩) (mm + 1) cap :: zeros13)) := z9.set 0 _
                  have HO9 : Hid ((w9.setCell ⟨wo.heap.size, 0, none⟩ (.slice (some ⟨g9, 0, none⟩) (mm + 1) cap)).ownsRow (wo.heap.size + 1) 40 3 (.slice (some ⟨g9, 0, none⟩) (mm + 1) cap) (mm + 1) ((valid la (s.take (j + 1))).flatMap ocell3)) := by
                    have hg9 := (hown9.lt g9 rfl).1
                    have e9 : (valid la (s.take (j + 1))).flatMap ocell3 = (valid la (s.take j)).flatMap ocell3 ++ [.int .i64 ok, .int .i64 ox, .int .i64 oy] := by
                      rw [HV.out, List.flatMap_append, ← HOC.out]; simp
                    show World.ownsRow _ _ _ _ _ _ _
                    rw [e9]
                    refine ownsRow_keep (w := w9) hown9 fun q hq => ?_
                    have hqe : q = g9 := (Option.some.inj hq).symm
                    subst hqe
                    exact Below.heap_setCell w9 ⟨wo.heap.size, 0, none⟩ _ q (by show q ≠ wo.heap.size; omega)
                  have HM9 : Hid (mm + 1 = (valid la (s.take (j + 1))).length) := by show _ = _; rw [HV.out, List.length_append, ← HMM.out]; rfl
                  clear hown9 hgrow hat hlt9 z9)
                all_goals go_wp2_with fail
                all_goals (go_roundg (m - (j + 1)))
                all_goals (first | exact ⟨j + 1, mm + 1, _, by omega, by omega, by go_num, by omega, HB9.out, HO9.out, HM9.out, HX9.out⟩ | omega)
              · rw [if_neg ho, List.append_nil] at hv
                have HFD : ∀ W, (Instr.field 85 bg 1).run Tryd.prog W = .ok (.bool false) W := fun W => by rw [← hbg]; exact field_no ok ox oy la ho W
                have HV := Lib.hid hv
                have HBGV := Lib.hid hbg
                clear hv ho hbg
                go_wp2_with fail
                refine (HBG.out _).mono ?_
                rw [HBGV.out]
                rintro e w3 ⟨rfl, hb3⟩
                have HX3 : Hid (Below wo.heap.size wo w3) := HX.out.trans (hb3.mono (by omega))
                have HB3V : Hid (Box w3 wo.heap.size 83 (lv :: zeros13)) := HBX.out.below hb3
                have HLV3 : Hid (w3.ownsRow (wo.heap.size + 1) 40 3 lv mm ((valid la (s.take j)).flatMap ocell3)) := ownsRow_below HLV.out hb3
                clear hb3 d0 d1 d2 d4
                go_wp2_with fail
                go_roundg (m - (j + 1))
                case measure => omega
                case rel => exact ⟨j + 1, mm, lv, by omega, by omega, by go_num, by omega, HB3V.out, by rw [HV.out]; exact HLV3.out, by rw [HV.out]; exact HMM.out, HX3.out⟩
            · obtain rfl : j = m := by omega
              have e : s.take j = s := List.take_of_length_le (by rw [HML.out]; exact Nat.le_refl _)
              rw [e] at HLV HMM
              obtain ⟨al, cl, rfl, hcl, hsl⟩ := Sl.of_owns ocell3_length HLV.out HMM.out.symm
              have hbx14 := HBX.out
              unfold zeros13 at hbx14
              obtain ⟨_, _, _, _, _, _, _, _, _, _, _, _, _, _⟩ := hbx14.c14
              have hin2 := HIN.out
              have HOWr : Hid (wr.ownsRow w2.heap.size 83 14 u11 r ws.flatten) := ownsRow_below HOW.out HX.out
              have HN : Hid (∀ (W : World) (q : Nat) (u : Value), ([.slice al mm cl, .bool false, .int .i64 0, .int .i64 0, .int .i64 0, .int .i64 0, .int .i64 0, .int .i64 0, .int .i64 0, .int .i64 0, .bool false, .int .i64 0, .int .i64 0, .int .i64 0] : List Value)[q]? = some u → (W.alloc (.cells #[.slice al mm cl, .bool false, .int .i64 0, .int .i64 0, .int .i64 0, .int .i64 0, .int .i64 0, .int .i64 0, .int .i64 0, .int .i64 0, .bool false, .int .i64 0, .int .i64 0, .int .i64 0] 83)).cell? (Addr.add ⟨W.heap.size, 0, none⟩ q) = some u) := fun W q u hq =>
                World.news_of_block (w := W.alloc (.cells #[.slice al mm cl, .bool false, .int .i64 0, .int .i64 0, .int .i64 0, .int .i64 0, .int .i64 0, .int .i64 0, .int .i64 0, .int .i64 0, .bool false, .int .i64 0, .int .i64 0, .int .i64 0] 83)) (B := W.heap.size) (cs := #[.slice al mm cl, .bool false, .int .i64 0, .int .i64 0, .int .i64 0, .int .i64 0, .int .i64 0, .int .i64 0, .int .i64 0, .int .i64 0, .bool false, .int .i64 0, .int .i64 0, .int .i64 0]) (Box.new W 83 [.slice al mm cl, .bool false, .int .i64 0, .int .i64 0, .int .i64 0, .int .i64 0, .int .i64 0, .int .i64 0, .int .i64 0, .int .i64 0, .bool false, .int .i64 0, .int .i64 0, .int .i64 0]) q u (by simpa using hq)
              have HSLL := Lib.hid hsl
              have HIN2 := Lib.hid hin2
              clear hsl hin2 e hbx14
              go_wp2_with (at_builtin; refine wpList_append_lies _ rfl _ _ 79 rfl w2.heap.size 83 i0 (.agg #[.slice none 0 0, .bool false, .int .i64 0, .int .i64 0, .int .i64 0, .int .i64 0, .int .i64 0, .int .i64 0, .int .i64 0, .int .i64 0, .bool false, .int .i64 0, .int .i64 0, .int .i64 0]) 14 128 Tryd.underlying79 hi0 hz0 hz1 hz2 rfl (by decide) _ r ws.flatten rfl (HOWr.out.alloc _) ⟨wr.heap.size, 0, none⟩ 1 1 [.slice al mm cl, .bool false, .int .i64 0, .int .i64 0, .int .i64 0, .int .i64 0, .int .i64 0, .int .i64 0, .int .i64 0, .int .i64 0, .bool false, .int .i64 0, .int .i64 0, .int .i64 0] rfl rfl (HN.out _) ?c2 (by decide) ?c3 ?c4 ?c5 _ rfl ?_)
              case c2 => intro v hv; simp at hv; rcases hv with rfl | rfl | rfl | rfl | rfl | rfl | rfl | rfl | rfl | rfl | rfl | rfl | rfl | rfl <;> rfl
              case c3 => unfold maxLen; omega
              case c4 => omega
              case c5 => simp; have := KV.out.size; omega
              intro g9 cap9 w9 hown9 hgrow hat hlt9
              have hz : rcell (Wk.new (valid la s)) al cl = [.slice al mm cl, .bool false, .int .i64 0, .int .i64 0, .int .i64 0, .int .i64 0, .int .i64 0, .int .i64 0, .int .i64 0, .int .i64 0, .bool false, .int .i64 0, .int .i64 0, .int .i64 0] := by
                rw [rcell_new, ← HMM.out]; rfl
              have HO9 : Hid (w9.ownsRow w2.heap.size 83 14 (.slice (some ⟨g9, 0, none⟩) (r + 1) cap9) (r + 1) (ws ++ [rcell (Wk.new (valid la s)) al cl]).flatten) := by
                show World.ownsRow _ _ _ _ _ _ _
                rw [List.flatten_append, List.flatten_cons, List.flatten_nil, List.append_nil, hz]
                exact hown9
              have hqx : Below wo.heap.size wo (wr.alloc (.cells #[.slice al mm cl, .bool false, .int .i64 0, .int .i64 0, .int .i64 0, .int .i64 0, .int .i64 0, .int .i64 0, .int .i64 0, .int .i64 0, .bool false, .int .i64 0, .int .i64 0, .int .i64 0] 83)) := HX.out.alloc (by omega) _
              have hsn := HIN2.out.snoc (g := g9) (l := valid la s) (a := al) (c := cl) (fun q hq => (HOW.out.lt q hq).2) hqx hgrow (by rw [World.size_alloc]; exact hat) (by rw [← HMM.out]; exact hcl) (by omega) (by
                by_cases hm0 : mm = 0
                · exact .inl (List.eq_nil_of_length_eq_zero (by rw [← HMM.out, hm0]))
                · obtain ⟨b7, o7, e7, q1, q2, q3⟩ := HSLL.out.at (by omega)
                  exact .inr ⟨b7, o7, e7, by omega, by simp; omega, q3.agree (Below.heap_alloc wr _ b7 q2)⟩)
              have HW9 : Hid (Below w2.heap.size w2 w9) := (HW.out.trans (hqx.mono (by omega))).grown hgrow (by simp; omega) (fun q hq => (HOW.out.lt q hq).1)
              have htk : (ss.take (r + 1)).map (valid la) = (ss.take r).map (valid la) ++ [valid la s] := by rw [List.take_add_one, HSK.out]; simp
              have HSN : Hid (WIn w9 w1.heap.size (some g9) (ws ++ [rcell (Wk.new (valid la s)) al cl]) ((ss.take (r + 1)).map (valid la))) := by
                show WIn _ _ _ _ _
                rw [htk]; exact hsn
              clear hown9 hgrow hat hlt9 hz hqx hsn htk
              go_wp2_with fail
              go_roundg (k - (r + 1))
              case measure => omega
              case rel => exact ⟨r + 1, _, by omega, by omega, by go_num, HO9.out, HSN.out, HW9.out⟩
        · obtain rfl : r = k := by omega
          have e : ss.take r = ss := List.take_of_length_le (by rw [HSL.out]; exact Nat.le_refl _)
          rw [e] at HIN
          have HB3 : Hid (Below w.heap.size w wo) := HB2.out.trans (HW.out.mono (by omega))
          have HBO3 : Hid (Box wo w1.heap.size 30 [.slice none 0 0, .slice au la cu, .int .i64 0]) := HBO.out.below HW.out
          have HBR3 : Hid (Box wo w.heap.size 30 [.slice none 0 0, .slice none 0 0, .int .i64 0]) := HBR2.out.below HW.out
          have HUP3 : Hid (RowN w0.heap.size w1.heap.size wo au la (List.range la)) := HUP2.out.below HW.out (by omega)
          clear HBO HBR2 HUP2 e
          go_wp2_with fail
          refine (rstart_any c lc cc wo).mono ?_
          rintro e w4 ⟨rfl, hb4⟩
          have s4 := hb4.size
          obtain ⟨WB, cw, hu11, hWB, hrows⟩ := rows_of_owns HOW.out hlb (by have := HIN.out.1; rw [List.length_map] at this; rw [this]; exact HSL.out) HIN.out.len
          have hown11 : u11.ownBlock = some WB := by rw [hu11]; rfl
          have hin11 := HIN.out
          rw [hown11] at hin11
          have HROW := Lib.hid hrows
          have HIN11 := Lib.hid hin11
          have HB4 := Lib.hid hb4
          subst hu11
          clear hrows hown11 hin11 hb4
          go_wp2_with fail
          have kD : Below w4.heap.size w4 (w4.alloc (.cells #[.slice c lc cc, .int .i64 0, .int .i64 (-1)] 88)) := by go_grown
          have bD := Box.new w4 88 [.slice c lc cc, .int .i64 0, .int .i64 (-1)]
          have sD : (w4.alloc (.cells #[.slice c lc cc, .int .i64 0, .int .i64 (-1)] 88)).heap.size = w4.heap.size + 1 := World.size_alloc _ _
          simp only [List.toArray] at bD
          generalize w4.alloc (.cells #[.slice c lc cc, .int .i64 0, .int .i64 (-1)] 88) = w5 at *
          have hb5 : Below wo.heap.size wo w5 := HB4.out.trans (kD.mono s4)
          have HB5 : Hid (Below w.heap.size w w5) := HB3.out.trans (hb5.mono (by have := HB3.out.size; omega))
          have HR5 : Hid (Box w5 w.heap.size 30 [.slice none 0 0, .slice none 0 0, .int .i64 0]) := HBR3.out.below hb5
          have hws : (gm0 la (ss.map (valid la))).ws = (ss.map (valid la)).map Wk.new := rfl
          have HRS : Hid (RS w5 w1.heap.size w4.heap.size WB la lc c cc ws (.slice none 0 0) au cu w0.heap.size w1.heap.size (run pr xs (gm0 la (ss.map (valid la))) 0)) := by
            refine ⟨HBO3.out.below hb5, ?_, HUP3.out.below hb5 (by omega), by omega, fun b q1 q2 => ⟨.inl (by omega), by intro e; cases e⟩, ?_, World.ownsRow_nil _ _ _ _, by omega, by omega⟩
            · show Box w5 w4.heap.size _ [_, .int .i64 ((min 0 lc : Nat) : Int), .int .i64 (-1)]
              rw [Nat.zero_min]
              exact bD
            · show WR w5 w1.heap.size w4.heap.size WB (gm0 la (ss.map (valid la))).ws ws
              rw [hws]
              exact wr_of_in HIN11.out HROW.out hb5 (by omega) s4
          have hWD : WB < w4.heap.size := by have := HROW.out.1; omega
          have hDw5 : w4.heap.size < w5.heap.size := by omega
          have hwO : w.heap.size < w1.heap.size := by omega
          have hwD : w.heap.size < w4.heap.size := by omega
          obtain ⟨O, hO⟩ : ∃ O, w1.heap.size = O := ⟨_, rfl⟩
          obtain ⟨D, hD⟩ : ∃ D, w4.heap.size = D := ⟨_, rfl⟩
          rw [hO, hD] at HRS
          rw [hO] at hwO
          rw [hD] at hWD hDw5 hwD
          have hOW : O < WB := by omega
          clear HROW HIN11 HB4 HIN HOW HW HBO3 HBR3 HUP3 HB3 HB2 HK0 bD kD hb5 hws
          rw [hO, hD]
          clear hO hD
          obtain ⟨N, hN⟩ : ∃ N, N = opsIn (ss.map (valid la)) * (16 * la + 1) + 1 := ⟨_, rfl⟩
          have HN := Lib.hid hN
          clear hN
          go_loopg [16] (N) (fun gn s16 wr => ∃ (t : Nat) (ys : List (List Value)) (ev : Value) (av : Option Addr) (cv lo hi : Nat), gn + t = N ∧ w.heap.size < lo ∧ Hid (RS wr O D WB la lc c cc ys ev av cv lo hi (run pr xs (gm0 la (ss.map (valid la))) t)) ∧ Hid (Below w.heap.size w wr) ∧ Hid (Box wr w.heap.size 30 [.slice none 0 0, .slice none 0 0, .int .i64 0]) ∧ Hid (∀ t', t' < t → on 0 (run pr xs (gm0 la (ss.map (valid la))) t').en ≠ []))
          case atStart => exact ⟨0, ws, .slice none 0 0, au, cu, _, _, Nat.add_zero _, hs0, HRS.out, HB5.out, HR5.out, fun t h => absurd h (Nat.not_lt_zero _)⟩
          case round =>
            rename World => wq
            obtain ⟨t, ys, ev, av, cv, lo, hi, hgk, hlo, HRS, HB, HBR, HNE⟩ := hrel
            obtain ⟨hTM, htb, hGI, hWL⟩ := st_bound HNE.out
            rw [HSL.out] at hWL
            have hop := opsIn_val la ss
            have hmul : opsIn (ss.map (valid la)) * (16 * la + 1) ≤ 4096 * (16 * 4096 + 1) := Nat.mul_le_mul (Nat.le_trans hop HM3.out) (by omega)
            have htb2 : t ≤ 268439552 := by omega
            obtain ⟨g, hg⟩ : ∃ g, run pr xs (gm0 la (ss.map (valid la))) t = g := ⟨_, rfl⟩
            rw [hg] at HRS hTM hGI hWL
            obtain ⟨ae, ce, rfl⟩ : ∃ ae ce, ev = .slice ae g.l.length ce := by
              obtain ⟨_, ⟨h1, h0⟩ | ⟨q, cap, cur, h1, _⟩⟩ := HRS.out.evs
              · exact ⟨none, 0, by rw [h1, h0]⟩
              · exact ⟨_, _, h1⟩
            have HGI := Lib.hid hGI
            have HWL := Lib.hid hWL
            have HTM := Lib.hid hTM
            have HG := Lib.hid hg
            have hqs := HRS.out.ds
            clear hGI hWL hTM hg hop hmul htb
            obtain ⟨b0, hb0, hb1, hb2, hb3⟩ := info_parts Tryd.boolInfo1
            obtain ⟨mk, hmk⟩ : ∃ mk, mk = (List.replicate r (Value.bool false)).toArray := ⟨_, rfl⟩
            have hmake : ∀ W, Sem.run Tryd.prog (Instr.makeSlice 70 (.int .i64 (r : Int)) (.int .i64 (r : Int))) W = .ok (.slice (some ⟨W.heap.size, 0, none⟩) r r) (W.alloc (.cells mk 4)) := by
              intro W
              have := run_makeSlice (P := Tryd.prog) (w := W) 70 4 b0 (.bool false) Tryd.underlying70 hb0 hb1 .i64 .i64 (r : Int) (r : Int) (by omega) (Int.le_refl _) (by rw [hb2]; omega) (by rw [hb3]; omega) (by omega)
              rw [hb2, Int.toNat_natCast, Nat.mul_one] at this
              rw [this, hmk]
              congr 3
              apply Array.toList_inj.1
              rw [show (Value.bool false).cells = #[Value.bool false] from rfl]
              simp [toList_madeCells_one]
            have HMK := Lib.hid hmk
            clear hmk
            go_wp2_with fail
            have kE : Below wq.heap.size wq (wq.alloc (.cells mk 4)) := by go_grown
            have bE := Box.new wq 4 (List.replicate r (Value.bool false))
            rw [← HMK.out] at bE
            generalize wq.alloc (.cells mk 4) = wE at *
            have HKE := Lib.hid kE
            have HBE : Hid (Box wE wq.heap.size 4 (enL g.en 0 r)) := by show Box _ _ _ _; rw [enL_zero]; exact bE
            have hel : g.en.length = r := by unfold Gm.en; rw [List.length_map]; exact HWL.out
            have HEL := Lib.hid hel
            clear kE bE hmake hel
            go_loopg [17] (r) (fun gn i wr => ∃ j : Nat, gn + j ≤ r ∧ r ≤ gn + j ∧ i = .int .i64 (j : Int) ∧ Hid (Box wr wq.heap.size 4 (enL g.en j r)) ∧ Hid (Below wq.heap.size wq wr))
            case atStart => exact ⟨0, by omega, by omega, rfl, HBE.out, HKE.out⟩
            case round =>
              obtain ⟨j, hj1, hj2, rfl, HEB, HEW⟩ := hrel
              have sE := HEW.out.size
              by_cases hjr : j < r
              · as_aux_lemma =>
                obtain ⟨kw, hkw⟩ : ∃ k, g.ws[j]? = some k := ⟨_, List.getElem?_eq_getElem (by have := HWL.out; omega)⟩
                obtain ⟨al', cl', hx1', hcl', _⟩ := HRS.out.rows.e j kw hkw
                have hrr := HRS.out.rows.r
                obtain ⟨z0, _⟩ := hrr.2 j _ hx1' 0 _ rfl
                obtain ⟨z1, _⟩ := hrr.2 j _ hx1' 1 _ rfl
                have hWBq := hrr.1
                simp only [Nat.add_zero] at z0
                have y0 := (HEW.out.cell (p := ⟨WB, j * 14, none⟩) hWBq).trans z0
                have y1 := (HEW.out.cell (p := ⟨WB, j * 14 + 1, none⟩) hWBq).trans z1
                have hWBr : WB < wr.heap.size := by omega
                have hEr : wq.heap.size < wr.heap.size := HEB.out.lt
                have p0 : ∃ v0, wr.cell? ⟨wq.heap.size, j, none⟩ = some v0 := by
                  rw [HEB.out.cell j]; exact ⟨_, List.getElem?_eq_getElem (by rw [enL_length HEL.out (by omega)]; exact hjr)⟩
                obtain ⟨v0, p0⟩ := p0
                have p1 := HEB.out.frozen j
                have hj0 : (0 : Int) ≤ (j : Int) := by omega
                have hjl : (j : Int) < (r : Int) := by omega
                have TI : ∀ W0, Sem.run Tryd.prog (Instr.indexAt 79 (.slice (some ⟨WB, 0, none⟩) r cw) (.int .i64 (j : Int))) W0 = .ok (.pointer (some ⟨WB, j * 14, none⟩)) W0 := fun W0 => by go_simp
                have hen : g.en[j]? = some kw.en := by unfold Gm.en; rw [List.getElem?_map, hkw]; rfl
                have HEN := Lib.hid hen
                obtain ⟨ml, hml⟩ : ∃ m, kw.left.length = m := ⟨_, rfl⟩
                rw [hml] at y0
                have hway : (kw.on = true) ∨ (kw.on = false ∧ ml = 0 ∧ kw.en = false) ∨ (kw.on = false ∧ 0 < ml ∧ kw.en = true) := by
                  unfold Wk.en
                  cases ho : kw.on with
                  | true => exact .inl rfl
                  | false =>
                    right
                    cases hq : kw.left with
                    | nil => left; rw [hq] at hml; exact ⟨rfl, by rw [← hml]; rfl, rfl⟩
                    | cons o l => right; rw [hq] at hml; exact ⟨rfl, by rw [← hml]; simp, rfl⟩
                have HWAY := Lib.hid hway
                clear hkw hx1' hcl' hrr z0 z1 hen hml hway
                rcases HWAY.out with h1 | ⟨h1, h2, h3⟩ | ⟨h1, h2, h3⟩
                · rw [h1] at y1
                  have H3 : Hid (kw.en = true) := by show _ = _; unfold Wk.en; rw [h1]; rfl
                  clear h1
                  go_wp2_with fail
                  go_roundg (r - (j + 1))
                  case measure => omega
                  case rel => exact ⟨j + 1, by omega, by omega, by go_num, by have := HEB.out.set j (.bool true); rwa [enL_set HEL.out hjr (by rw [HEN.out, H3.out])] at this, HEW.out.setCell (p := ⟨wq.heap.size, j, none⟩) (Nat.le_refl _) _⟩
                · rw [h1] at y1
                  rw [h2] at y0
                  have H3 := Lib.hid h3
                  clear h1 h2 h3
                  go_wp2_with fail
                  go_roundg (r - (j + 1))
                  case measure => omega
                  case rel => exact ⟨j + 1, by omega, by omega, by go_num, by have := HEB.out.set j (.bool false); rwa [enL_set HEL.out hjr (by rw [HEN.out, H3.out])] at this, HEW.out.setCell (p := ⟨wq.heap.size, j, none⟩) (Nat.le_refl _) _⟩
                · rw [h1] at y1
                  have H3 := Lib.hid h3
                  have hd : decide (0 < ml) = true := by simpa using h2
                  have hd2 : decide ((0 : Int) < (ml : Int)) = true := by simpa using h2
                  clear h1 h3
                  go_wp2_with fail
                  go_roundg (r - (j + 1))
                  case measure => omega
                  case rel => exact ⟨j + 1, by omega, by omega, by go_num, by have := HEB.out.set j (.bool true); rwa [enL_set HEL.out hjr (by rw [HEN.out, H3.out])] at this, HEW.out.setCell (p := ⟨wq.heap.size, j, none⟩) (Nat.le_refl _) _⟩
              · obtain rfl : j = r := by omega
                have hEB := HEB.out
                rw [enL_all HEL.out] at hEB
                have hrow := rowB_box hEB HEL.out
                have HR2 : Hid (RS wr O D WB la lc c cc ys (.slice ae g.l.length ce) av cv lo hi g) := HRS.out.below HEW.out
                have HB2 : Hid (Below w.heap.size w wr) := HB.out.trans (HEW.out.mono HB.out.size)
                have HBR2 : Hid (Box wr w.heap.size 30 [.slice none 0 0, .slice none 0 0, .int .i64 0]) := HBR.out.below HEW.out
                obtain ⟨mt, hmt⟩ : ∃ m, min g.tm lc = m := ⟨_, rfl⟩
                have hpbx := HR2.out.pb
                rw [hmt] at hpbx
                obtain ⟨_, _, _, _, _, _⟩ := hpbx.three
                have hDr := hpbx.lt
                have HPK := Lib.hid (fun w' (h : Below wr.heap.size wr w') => pick_any c (some ⟨wq.heap.size, 0, none⟩) lc cc j j xs g.en (mt : Int) g.last w' ((HX.out.below HB2.out hx1).below h (by have := HB2.out.size; omega)) (by have := HB2.out.size; have := h.size; omega) (by omega) (hrow.below h (Nat.le_refl _)) h.size (by omega))
                have HPX := Lib.hid hpbx
                have HMT := Lib.hid hmt
                clear hEB hrow hpbx hmt
                by_cases hon : on 0 g.en = []
                · as_aux_lemma =>
                  have hn1 : nextI xs (mt : Int) g.last g.en = -1 := by simp [nextI, hon]
                  have HON := Lib.hid hon
                  have HN1 := Lib.hid hn1
                  clear hon hn1
                  go_wp2_with fail
                  refine (HPK.out _ (Below.refl _ _)).mono ?_
                  rw [HN1.out]
                  rintro e w7 ⟨rfl, hb7⟩
                  have s7 := hb7.size
                  have hOx := HR2.out.box.below hb7
                  have hRx := HBR2.out.below hb7
                  obtain ⟨_, _, _, _, _, _⟩ := hOx.three
                  obtain ⟨_, _, _, _, _, _⟩ := hRx.three
                  have hO7 := hOx.lt
                  have hR7 := hRx.lt
                  have HR7 : Hid (RS w7 O D WB la lc c cc ys (.slice ae g.l.length ce) av cv lo hi g) := HR2.out.below hb7
                  have HB7 : Hid (Below w.heap.size w w7) := HB2.out.trans (hb7.mono (by have := HB2.out.size; omega))
                  have htt := HTM.out
                  have HGL : Hid (g.tm = t) := htt
                  clear hOx hRx hb7 htt
                  go_wp2_with fail
                  refine bodyPost_ret (v := .agg #[.slice ae g.l.length ce, .slice av la cv, .int .i64 (g.tm : Int)]) (by simp only [results, Tryd.results13]; go_simp) rfl ?_
                  have hRne : ∀ b, b ≠ w.heap.size → ((((w7.setCell ⟨w.heap.size, 0, none⟩ (.slice ae g.l.length ce)).setCell ⟨w.heap.size, 1, none⟩ (.slice av la cv)).setCell ⟨w.heap.size, 2, none⟩ (.int .i64 (g.tm : Int)))).heap[b]? = w7.heap[b]? := fun b hb => by
                    rw [Below.heap_setCell _ ⟨w.heap.size, 2, none⟩ _ b hb, Below.heap_setCell _ ⟨w.heap.size, 1, none⟩ _ b hb, Below.heap_setCell _ ⟨w.heap.size, 0, none⟩ _ b hb]
                  have hszR : ((((w7.setCell ⟨w.heap.size, 0, none⟩ (.slice ae g.l.length ce)).setCell ⟨w.heap.size, 1, none⟩ (.slice av la cv)).setCell ⟨w.heap.size, 2, none⟩ (.int .i64 (g.tm : Int)))).heap.size = w7.heap.size := by simp
                  have hbR : Below w.heap.size w7 ((((w7.setCell ⟨w.heap.size, 0, none⟩ (.slice ae g.l.length ce)).setCell ⟨w.heap.size, 1, none⟩ (.slice av la cv)).setCell ⟨w.heap.size, 2, none⟩ (.int .i64 (g.tm : Int)))) := (((Below.refl _ _).setCell (p := ⟨w.heap.size, 0, none⟩) (Nat.le_refl _) _).setCell (p := ⟨w.heap.size, 1, none⟩) (Nat.le_refl _) _).setCell (p := ⟨w.heap.size, 2, none⟩) (Nat.le_refl _) _
                  generalize ((((w7.setCell ⟨w.heap.size, 0, none⟩ (.slice ae g.l.length ce)).setCell ⟨w.heap.size, 1, none⟩ (.slice av la cv)).setCell ⟨w.heap.size, 2, none⟩ (.int .i64 (g.tm : Int)))) = w8 at *
                  refine ⟨g.tm, cv, .slice ae g.l.length ce, av, rfl, ?_, ?_, ?_, ?_⟩
                  · rw [HGL.out]; exact ⟨HNE.out, by rw [HG.out]; exact HON.out⟩
                  · rw [show run pr xs (gm0 la (ss.map (valid la))) g.tm = g by rw [HGL.out]; exact HG.out]
                    refine World.ownsRow.alloc (ownsRow_keep (w := w7) ?_ fun q hq => hRne q (by have := HR7.out.evs.lt q hq; omega)) _
                    obtain ⟨h1, h2 | ⟨q, cap, cur, h3, h4, h5⟩⟩ := HR7.out.evs
                    · exact ⟨h1, .inl h2⟩
                    · exact ⟨h1, .inr ⟨q, cap, cur, h3, by omega, h5⟩⟩
                  · rw [show run pr xs (gm0 la (ss.map (valid la))) g.tm = g by rw [HGL.out]; exact HG.out]
                    have hup := HR7.out.up.agree (w' := w8) fun b b1 b2 => hRne b (by omega)
                    exact (hup.alloc (by rw [hszR]; exact HR7.out.uh) _).mono (Nat.zero_le _) (by have := HR7.out.uh; simp; omega)
                  · exact (HB7.out.trans hbR).alloc (by rw [hszR]; have := HB7.out.size; omega) _
                · obtain ⟨n1, n2, n3⟩ := next_who (lc := lc) HXL.out hon
                  rw [HMT.out] at n1 n2 n3
                  obtain ⟨x, hx'⟩ : ∃ x, g.who xs = x := ⟨_, rfl⟩
                  rw [hx'] at n1 n2
                  have HN1 := Lib.hid n1
                  have HN2 := Lib.hid n2
                  have HN3 := Lib.hid n3
                  have hxw : x < j := by rw [← hx', ← HWL.out]; exact Gm.who_lt hon
                  have hxe : (g.wk x).en = true := by rw [← hx']; exact Gm.who_en hon
                  have HXE := Lib.hid hxe
                  have HXW := Lib.hid hx'
                  have HON := Lib.hid hon
                  clear n1 n2 n3 hx' hon hxe
                  go_wp2_with fail
                  refine (HPK.out _ (Below.refl _ _)).mono ?_
                  rw [HN1.out, HN2.out, HN3.out]
                  rintro e w7 ⟨rfl, hb7⟩
                  have s7 := hb7.size
                  have hOx := HR2.out.box.below hb7
                  have hDx := HR2.out.pb.below hb7
                  obtain ⟨_, _, _, _, _, _⟩ := hOx.three
                  obtain ⟨_, _, _, _, _, _⟩ := hDx.three
                  have hO7 := hOx.lt
                  have hD7 := hDx.lt
                  have hOD : O ≠ D := by have := HR2.out.od; omega
                  have hDO : D ≠ O := by omega
                  have HR7 : Hid (RS w7 O D WB la lc c cc ys (.slice ae g.l.length ce) av cv lo hi g) := HR2.out.below hb7
                  have HB7 : Hid (Below w.heap.size w w7) := HB2.out.trans (hb7.mono (by have := HB2.out.size; omega))
                  have HBR7 : Hid (Box w7 w.heap.size 30 [.slice none 0 0, .slice none 0 0, .int .i64 0]) := HBR2.out.below hb7
                  have htm0 : (0 : Int) ≤ (g.tm : Int) := by omega
                  have htm1 : (g.tm : Int) ≤ 268439552 := by have := HTM.out; omega
                  clear hOx hDx hb7
                  go_upto_region 31 with fail
                  have hOb := HR7.out.box
                  have hDb := HR7.out.pb
                  have HRm : RS ((((w7.setCell ⟨D, 0, none⟩ (.slice c lc cc)).setCell ⟨D, 1, none⟩ (.int .i64 ((min (g.tm + 1) lc : Nat) : Int))).setCell ⟨D, 2, none⟩ (.int .i64 (x : Int))).setCell ⟨O, 2, none⟩ (.int .i64 ((g.tm : Int) + 1))) O D WB la lc c cc ys (.slice ae g.l.length ce) av cv lo hi { g with tm := g.tm + 1, last := (x : Int) } := by
                    refine HR7.out.upd ?_ ?_ ?_ rfl rfl rfl
                    · exact ((((Two.refl O D w7).set D 0 (.inr rfl) _).set D 1 (.inr rfl) _).set D 2 (.inr rfl) _).set O 2 (.inl rfl) _
                    · exact (((hOb.setOther (a := ⟨D, 0, none⟩) hOD _).setOther (a := ⟨D, 1, none⟩) hOD _).setOther (a := ⟨D, 2, none⟩) hOD _).set 2 _
                    · exact (((hDb.set 0 _).set 1 _).set 2 _).setOther (a := ⟨O, 2, none⟩) hDO _
                  have hBm : Below w.heap.size w7 ((((w7.setCell ⟨D, 0, none⟩ (.slice c lc cc)).setCell ⟨D, 1, none⟩ (.int .i64 ((min (g.tm + 1) lc : Nat) : Int))).setCell ⟨D, 2, none⟩ (.int .i64 (x : Int))).setCell ⟨O, 2, none⟩ (.int .i64 ((g.tm : Int) + 1))) :=
                    ((((Below.refl _ _).setCell (p := ⟨D, 0, none⟩) (by show _ ≤ D; omega) _).setCell (p := ⟨D, 1, none⟩) (by show _ ≤ D; omega) _).setCell (p := ⟨D, 2, none⟩) (by show _ ≤ D; omega) _).setCell (p := ⟨O, 2, none⟩) (by show _ ≤ O; omega) _
                  have hRm : Box ((((w7.setCell ⟨D, 0, none⟩ (.slice c lc cc)).setCell ⟨D, 1, none⟩ (.int .i64 ((min (g.tm + 1) lc : Nat) : Int))).setCell ⟨D, 2, none⟩ (.int .i64 (x : Int))).setCell ⟨O, 2, none⟩ (.int .i64 ((g.tm : Int) + 1))) w.heap.size 30 [.slice none 0 0, .slice none 0 0, .int .i64 0] :=
                    (((HBR7.out.setOther (a := ⟨D, 0, none⟩) (by show w.heap.size ≠ D; omega) _).setOther (a := ⟨D, 1, none⟩) (by show w.heap.size ≠ D; omega) _).setOther (a := ⟨D, 2, none⟩) (by show w.heap.size ≠ D; omega) _).setOther (a := ⟨O, 2, none⟩) (by show w.heap.size ≠ O; omega) _
                  have hsm : ((((w7.setCell ⟨D, 0, none⟩ (.slice c lc cc)).setCell ⟨D, 1, none⟩ (.int .i64 ((min (g.tm + 1) lc : Nat) : Int))).setCell ⟨D, 2, none⟩ (.int .i64 (x : Int))).setCell ⟨O, 2, none⟩ (.int .i64 ((g.tm : Int) + 1))).heap.size = w7.heap.size := by simp
                  generalize ((((w7.setCell ⟨D, 0, none⟩ (.slice c lc cc)).setCell ⟨D, 1, none⟩ (.int .i64 ((min (g.tm + 1) lc : Nat) : Int))).setCell ⟨D, 2, none⟩ (.int .i64 (x : Int))).setCell ⟨O, 2, none⟩ (.int .i64 ((g.tm : Int) + 1))) = w8 at *
                  have bX := Box.new w8 91 [.int .i64 (x : Int), .slice c lc cc, .int .i64 ((min (g.tm + 1) lc : Nat) : Int), .int .i64 (x : Int)]
                  rw [hsm] at bX
                  have kX : Below w8.heap.size w8 (w8.alloc (.cells #[.int .i64 (x : Int), .slice c lc cc, .int .i64 ((min (g.tm + 1) lc : Nat) : Int), .int .i64 (x : Int)] 91)) := by go_grown
                  have sX : (w8.alloc (.cells #[.int .i64 (x : Int), .slice c lc cc, .int .i64 ((min (g.tm + 1) lc : Nat) : Int), .int .i64 (x : Int)] 91)).heap.size = w7.heap.size + 1 := by rw [World.size_alloc, hsm]
                  simp only [List.toArray] at bX
                  generalize w8.alloc (.cells #[.int .i64 (x : Int), .slice c lc cc, .int .i64 ((min (g.tm + 1) lc : Nat) : Int), .int .i64 (x : Int)] 91) = w9 at *
                  obtain ⟨X, hX⟩ : ∃ X, w7.heap.size = X := ⟨_, rfl⟩
                  obtain ⟨g1, hg1⟩ : ∃ g1 : Gm, { g with tm := g.tm + 1, last := (x : Int) } = g1 := ⟨_, rfl⟩
                  rw [hg1] at HRm
                  have HG1 := Lib.hid hg1
                  have HEX : Hid (∀ q, (Value.slice ae g.l.length ce).ownBlock = some q → q < X) := fun q hq => by have := (HR7.out.evs.lt q hq).2; omega
                  have HR9 : Hid (RS w9 O D WB la lc c cc ys (.slice ae g.l.length ce) av cv lo hi g1) := HRm.below kX
                  have HB9 : Hid (Below w.heap.size w w9) := (HB7.out.trans hBm).trans (kX.mono (by have := HB7.out.size; omega))
                  have HBR9 : Hid (Box w9 w.heap.size 30 [.slice none 0 0, .slice none 0 0, .int .i64 0]) := hRm.below kX
                  rw [hX] at bX
                  have HXB : Hid (Box w9 X 91 [.int .i64 (x : Int), .slice c lc cc, .int .i64 ((min (g.tm + 1) lc : Nat) : Int), .int .i64 (x : Int)]) := bX
                  have hX9 : X < w9.heap.size := by omega
                  have hDX : D < X := by omega
                  rw [hX]
                  clear HRm hBm hRm hsm kX bX sX hX hg1 hOb hDb HPX HPK
                  obtain ⟨kw, hkw⟩ : ∃ k, g.wk x = k := ⟨_, rfl⟩
                  have hkx : g.ws[x]? = some kw := by rw [← hkw]; exact Gm.wk_get (by rw [HWL.out]; exact hxw)
                  have hg1w : g1.ws = g.ws := by rw [← HG1.out]
                  obtain ⟨a', c', hxr, hcl', hla⟩ := HR9.out.rows.e x kw (by rw [hg1w]; exact hkx)
                  obtain ⟨ml, hml⟩ : ∃ m, kw.left.length = m := ⟨_, rfl⟩
                  have hxr' : ys[x]? = some [.slice a' ml c', .bool kw.on, .int .i64 (kw.t.k : Int), .int .i64 (kw.t.x : Int), .int .i64 kw.y, .int .i64 (kw.t.st : Int), .int .i64 (kw.t.u : Int), .int .i64 (tV kw.t kw.y), .int .i64 (kw.t.w : Int), .int .i64 (kw.t.r : Int), .bool kw.t.dn, .int .i64 (kw.t.res : Int), .int .i64 (kw.bg : Int), .int .i64 (kw.mt : Int)] := by rw [hxr, ← hml]; rfl
                  have hrr := HR9.out.rows.r
                  obtain ⟨_, _, _, _, _, _, _, _, _, _, _, _, _, _⟩ := hrr.c14 hxr'
                  have hWB9 := hrr.1
                  obtain ⟨_, _⟩ := And.intro (HXB.out.cell 0) hX9
                  have hXc := HXB.out.cell 0
                  simp only [List.getElem?_cons_zero] at hXc
                  have hx0 : (0 : Int) ≤ (x : Int) := by omega
                  have hx1' : (x : Int) < (j : Int) := by omega
                  have TX : ∀ W0, Sem.run Tryd.prog (Instr.indexAt 79 (.slice (some ⟨WB, 0, none⟩) j cw) (.int .i64 (x : Int))) W0 = .ok (.pointer (some ⟨WB, x * 14, none⟩)) W0 := fun W0 => by go_simp
                  have HKW := Lib.hid hkw
                  have HKX := Lib.hid hkx
                  have HG1W := Lib.hid hg1w
                  have HXR := Lib.hid hxr
                  have HLA := Lib.hid hla
                  have HML := Lib.hid hml
                  rw [hml] at hcl'
                  clear hkw hkx hg1w hxr hxr' hrr hla hml
                  go_upto_if 141 with fail
                  have kV : Below w9.heap.size w9 (w9.alloc (.cells #[.slice a' ml c', .bool kw.on, .int .i64 (kw.t.k : Int), .int .i64 (kw.t.x : Int), .int .i64 kw.y, .int .i64 (kw.t.st : Int), .int .i64 (kw.t.u : Int), .int .i64 (tV kw.t kw.y), .int .i64 (kw.t.w : Int), .int .i64 (kw.t.r : Int), .bool kw.t.dn, .int .i64 (kw.t.res : Int), .int .i64 (kw.bg : Int), .int .i64 (kw.mt : Int)] 83)) := by go_grown
                  have bV := Box.new w9 83 [.slice a' ml c', .bool kw.on, .int .i64 (kw.t.k : Int), .int .i64 (kw.t.x : Int), .int .i64 kw.y, .int .i64 (kw.t.st : Int), .int .i64 (kw.t.u : Int), .int .i64 (tV kw.t kw.y), .int .i64 (kw.t.w : Int), .int .i64 (kw.t.r : Int), .bool kw.t.dn, .int .i64 (kw.t.res : Int), .int .i64 (kw.bg : Int), .int .i64 (kw.mt : Int)]
                  have sV : (w9.alloc (.cells #[.slice a' ml c', .bool kw.on, .int .i64 (kw.t.k : Int), .int .i64 (kw.t.x : Int), .int .i64 kw.y, .int .i64 (kw.t.st : Int), .int .i64 (kw.t.u : Int), .int .i64 (tV kw.t kw.y), .int .i64 (kw.t.w : Int), .int .i64 (kw.t.r : Int), .bool kw.t.dn, .int .i64 (kw.t.res : Int), .int .i64 (kw.bg : Int), .int .i64 (kw.mt : Int)] 83)).heap.size = w9.heap.size + 1 := World.size_alloc _ _
                  simp only [List.toArray] at bV
                  generalize w9.alloc (.cells #[.slice a' ml c', .bool kw.on, .int .i64 (kw.t.k : Int), .int .i64 (kw.t.x : Int), .int .i64 kw.y, .int .i64 (kw.t.st : Int), .int .i64 (kw.t.u : Int), .int .i64 (tV kw.t kw.y), .int .i64 (kw.t.w : Int), .int .i64 (kw.t.r : Int), .bool kw.t.dn, .int .i64 (kw.t.res : Int), .int .i64 (kw.bg : Int), .int .i64 (kw.mt : Int)] 83) = wV at *
                  obtain ⟨V, hV⟩ : ∃ V, w9.heap.size = V := ⟨_, rfl⟩
                  have HKV : Hid (Below w9.heap.size w9 wV) := kV
                  have HVS := Lib.hid hV
                  rw [hV] at bV sV
                  have HBX := Lib.hid bV
                  have hXV : X < V := by omega
                  have hVV : V < wV.heap.size := by omega
                  rw [hV]
                  clear kV bV sV hV hWB9 hXc hX9 hO7 hD7 TX
                  go_cut [] (fun wx => ∃ a7 c7, Hid (Box wx V 83 (rcell (g.bg x) a7 c7)) ∧ Hid ((g.bg x).left.length ≤ c7) ∧ Hid (LeftAt w9 O D WB a7 (g.bg x).left) ∧ Hid (Below V w9 wx))
                  case first =>
                    as_aux_lemma =>
                    cases hon : kw.on with
                    | true =>
                      have hbg : g.bg x = kw := by unfold Gm.bg; rw [HKW.out]; unfold Wk.beg; rw [if_pos hon]
                      have HBGK := Lib.hid hbg
                      have HBXK : Hid (Box wV V 83 (rcell kw a' c')) := by
                        have := HBX.out
                        rw [← HML.out] at this
                        exact this
                      have HON2 := Lib.hid hon
                      clear hon hbg
                      go_wp2_with (simp only [HON2.out])
                      go_meet
                      refine ⟨a', c', by rw [HBGK.out]; exact HBXK.out, by rw [HBGK.out, HML.out]; exact hcl', by rw [HBGK.out]; exact HLA.out, by have := HKV.out; rwa [HVS.out] at this⟩
                    | false =>
                      have hne : kw.left ≠ [] := by
                        have h := HXE.out
                        rw [HKW.out] at h
                        unfold Wk.en at h
                        rw [hon] at h
                        intro q
                        rw [q] at h
                        cases h
                      obtain ⟨o, rest, hlr⟩ : ∃ o rest, kw.left = o :: rest := by
                        cases h : kw.left with
                        | nil => exact absurd h hne
                        | cons o r => exact ⟨o, r, rfl⟩
                      have hok : o.ok la := (HGI.out.ok kw (List.mem_of_getElem? HKX.out)).l o (by rw [hlr]; simp)
                      have hmlr : ml = rest.length + 1 := by rw [← HML.out, hlr]; rfl
                      have hbg : g.bg x = ⟨rest, true, o.tk, o.y, g.tm + 1, kw.mt⟩ := by
                        unfold Gm.bg
                        rw [HKW.out]
                        unfold Wk.beg
                        rw [if_neg (by rw [hon]; decide), hlr]
                      obtain ⟨lb', lo', hale, q1, q2, q3, hat⟩ := HLA.out.resolve_left hne
                      rw [hlr] at hat
                      have hkv := HKV.out
                      have hlbw : lb' < w9.heap.size := by rw [HVS.out]; omega
                      have t0 := (hkv.cell (p := ⟨lb', lo', none⟩) hlbw).trans (by have := hat 0 (ocell3 o) rfl 0 _ rfl; simpa using this)
                      have t1 := (hkv.cell (p := ⟨lb', lo' + 1, none⟩) hlbw).trans (by have := hat 0 (ocell3 o) rfl 1 _ rfl; simpa using this)
                      have t2 := (hkv.cell (p := ⟨lb', lo' + 2, none⟩) hlbw).trans (by have := hat 0 (ocell3 o) rfl 2 _ rfl; simpa using this)
                      have hlbV : lb' < wV.heap.size := by omega
                      have hlbne : lb' ≠ V := by omega
                      obtain ⟨ra, hra, TS⟩ := run_skip3 (P := Tryd.prog) (t := 43) Tryd.underlying43 (by kernel_rfl) lb' lo' ml c' (by omega) hcl'
                      have hbgr := begR_yes (okB_ok hok)
                      have HBG := Lib.hid (fun w' => rbegin_any (o.k : Int) (o.x : Int) o.y (la : Int) w')
                      have HBGR := Lib.hid hbgr
                      have TF := fun (W : World) => field_t5 (o.k : Int) (o.x : Int) o.y 1 (o.x : Int) o.y 0 0 0 false true W
                      have HONE : Hid (∀ v ∈ ([.int .i64 (o.k : Int), .int .i64 (o.x : Int), .int .i64 o.y, .int .i64 1, .int .i64 (o.x : Int), .int .i64 o.y, .int .i64 0, .int .i64 0, .bool false, .int .i64 0] : List Value), v.oneCell' = true) := by
                        intro v hv
                        simp at hv
                        rcases hv with rfl | rfl | rfl | rfl | rfl | rfl | rfl | rfl | rfl | rfl <;> rfl
                      have hm0 : 0 < ml := by omega
                      have hml1 : (0 : Int) < (ml : Int) := by omega
                      have bx0 := HBX.out
                      rw [hon] at bx0
                      subst hale
                      obtain ⟨_, _, _, _, _, _, _, _, _, _, _, _, _, _⟩ := bx0.c14
                      have HRAT := Lib.hid hra
                      have HBGK := Lib.hid hbg
                      have HMLR := Lib.hid hmlr
                      have HOKK := Lib.hid hok
                      have HAT := Lib.hid hat
                      have HLR := Lib.hid hlr
                      have HBX0 := Lib.hid bx0
                      clear hra hbg hmlr hok hat hlr bx0 hne hbgr hlbw hkv
                      go_wp2_with fail
                      refine (HBG.out _).mono ?_
                      rw [HBGR.out]
                      rintro e w33 ⟨rfl, hb33⟩
                      have BV33 := Lib.hid (HBX0.out.below hb33)
                      have s33 := hb33.size
                      have HW33 : Hid (Below V w9 w33) := by have := HKV.out; rw [HVS.out] at this; exact this.trans (hb33.mono (by omega))
                      clear hb33 t0 t1 t2
                      go_wp2_with (refine wpList_store_part rfl 81 _ _ rfl V 2 [.slice (some ⟨lb', lo', none⟩) ml c', .bool false, .int .i64 (kw.t.k : Int), .int .i64 (kw.t.x : Int), .int .i64 kw.y, .int .i64 (kw.t.st : Int), .int .i64 (kw.t.u : Int), .int .i64 (tV kw.t kw.y), .int .i64 (kw.t.w : Int), .int .i64 (kw.t.r : Int), .bool kw.t.dn, .int .i64 (kw.t.res : Int), .int .i64 (kw.bg : Int), .int .i64 (kw.mt : Int)] [.int .i64 (o.k : Int), .int .i64 (o.x : Int), .int .i64 o.y, .int .i64 1, .int .i64 (o.x : Int), .int .i64 o.y, .int .i64 0, .int .i64 0, .bool false, .int .i64 0] [.slice (some ⟨lb', lo', none⟩) ml c', .bool false, .int .i64 (o.k : Int), .int .i64 (o.x : Int), .int .i64 o.y, .int .i64 1, .int .i64 (o.x : Int), .int .i64 o.y, .int .i64 0, .int .i64 0, .bool false, .int .i64 0, .int .i64 (kw.bg : Int), .int .i64 (kw.mt : Int)] rfl rfl 83 BV33.out Tryd.taskSize (by simp) rfl HONE.out ?_; intro w34 BV34 ht34; obtain ⟨_, _, _, _, _, _, _, _, _, _, _, _, _, _⟩ := BV34.c14; obtain ⟨_, _, _, _⟩ := BV34.f14; have hV34 := BV34.lt; have hO34 := ht34.box (HR9.out.box.below (w' := w33) (by rw [HVS.out]; exact HW33.out)) (by omega) (by omega); obtain ⟨_, _, _, _, _, _⟩ := hO34.three; have hOl34 := hO34.lt)
                      go_meet
                      have hg1t : g1.tm = g.tm + 1 := by rw [← HG1.out]
                      have BVE := ((BV34.set 0 (.slice ra (ml - 1) (c' - 1))).set 1 (.bool true)).set 12 (.int .i64 (g1.tm : Int))
                      have hw9 : Below V w9 (((w34.setCell ⟨V, 0, none⟩ (.slice ra (ml - 1) (c' - 1))).setCell ⟨V, 1, none⟩ (.bool true)).setCell ⟨V, 12, none⟩ (.int .i64 (g1.tm : Int))) :=
                        (((HW33.out.trans (ht34.below (by omega) (Nat.le_refl _) (Nat.le_refl _))).setCell (p := ⟨V, 0, none⟩) (Nat.le_refl _) _).setCell (p := ⟨V, 1, none⟩) (Nat.le_refl _) _).setCell (p := ⟨V, 12, none⟩) (Nat.le_refl _) _
                      have hml2 : ml - 1 = rest.length := by have := HMLR.out; omega
                      refine ⟨ra, c' - 1, ?_, ?_, ?_, hw9⟩
                      · rw [HBGK.out]
                        show Box _ V _ (.slice ra rest.length (c' - 1) :: .bool true :: (tcells o.tk o.y ++ [.int .i64 ((g.tm + 1 : Nat) : Int), .int .i64 (kw.mt : Int)]))
                        rw [← ocells_tk HOKK.out, ← hml2, ← hg1t]
                        exact BVE
                      · rw [HBGK.out]
                        show rest.length ≤ c' - 1
                        omega
                      · rw [HBGK.out]
                        show LeftAt w9 O D WB ra rest
                        by_cases hr0 : rest = []
                        · exact .inl hr0
                        · refine .inr ⟨lb', lo' + 3, HRAT.out (by have := HMLR.out; have : 0 < rest.length := List.length_pos_iff.2 hr0; omega), q1, q2, q3, ?_⟩
                          have := HAT.out
                          rw [List.map_cons] at this
                          exact this.tail
                  case rest =>
                  obtain ⟨a7, c7, HB7x, HC7, HL7, HW7⟩ := hcut
                  obtain ⟨kb, hkb⟩ : ∃ kb, g.bg x = kb := ⟨_, rfl⟩
                  rw [hkb] at HB7x HC7 HL7
                  have hW := went HGI.out (by rw [HWL.out]; exact hxw) HXE.out
                  have hIb := hW.I
                  have hnb := hW.nd
                  have hyb : kb.t.k ≠ 1 → kb.y = (kb.t.y : Int) := by have := hW.b.y hW.on; rwa [hkb] at this
                  rw [hkb] at hIb hnb
                  have hwr9 : Below w9.heap.size w9 wc := by rw [HVS.out]; exact HW7.out
                  have HRc : Hid (RS wc O D WB la lc c cc ys (.slice ae g.l.length ce) av cv lo hi g1) := HR9.out.below hwr9
                  have hg1u : g1.up = g.up := by rw [← HG1.out]
                  have hg1t : g1.tm = g.tm + 1 := by rw [← HG1.out]
                  obtain ⟨tt, htt⟩ : ∃ tt, tks g.up pr kb.t = tt := ⟨_, rfl⟩
                  have HSTP : Hid (∀ w', Below wc.heap.size wc w' → Calls Tryd.prog 46 #[.slice av la cv, .slice a la ca, .agg #[.int .i64 (kb.t.k : Int), .int .i64 (kb.t.x : Int), .int .i64 kb.y, .int .i64 (kb.t.st : Int), .int .i64 (kb.t.u : Int), .int .i64 (tV kb.t kb.y), .int .i64 (kb.t.w : Int), .int .i64 (kb.t.r : Int), .bool kb.t.dn, .int .i64 (kb.t.res : Int)]] w' fun e w'' =>
                      ∃ g9 c9, e = .returned (.agg #[.slice (some ⟨g9, 0, none⟩) la c9, .int .i64 (tt.k : Int), .int .i64 (tt.x : Int), .int .i64 kb.y, .int .i64 (tt.st : Int), .int .i64 (tt.u : Int), .int .i64 (tV tt kb.y), .int .i64 (tt.w : Int), .int .i64 (tt.r : Int), .bool tt.dn, .int .i64 (tt.res : Int)]) ∧ w'.heap.size ≤ g9 ∧ Own w'' g9 (ups g.up pr kb.t) ∧ Below w'.heap.size w' w'') := fun w' h => by
                    subst htt
                    have hup := HRc.out.up.below h HRc.out.uh
                    rw [hg1u] at hup
                    have hprw := (HPR.out.below HB9.out hp1).below hwr9 (by have := HB9.out.size; omega) |>.below h (by have := HB9.out.size; have := hwr9.size; omega)
                    exact rgstep_any av a la cv ca pr g.up kb.t kb.y w' hIb hyb hup (Nat.le_trans HRc.out.uh h.size) hprw (by have := HB9.out.size; have := hwr9.size; have := h.size; omega) (by omega) hnb
                  have hOc := HRc.out.box
                  obtain ⟨_, _, _, _, _, _⟩ := hOc.three
                  have hOl := hOc.lt
                  have hVc := HB7x.out
                  obtain ⟨_, _, _, _, _, _, _, _, _, _, _, _, _, _⟩ := (show Box wc V 83 [.slice a7 kb.left.length c7, .bool kb.on, .int .i64 (kb.t.k : Int), .int .i64 (kb.t.x : Int), .int .i64 kb.y, .int .i64 (kb.t.st : Int), .int .i64 (kb.t.u : Int), .int .i64 (tV kb.t kb.y), .int .i64 (kb.t.w : Int), .int .i64 (kb.t.r : Int), .bool kb.t.dn, .int .i64 (kb.t.res : Int), .int .i64 (kb.bg : Int), .int .i64 (kb.mt : Int)] from hVc).c14
                  have hVl := hVc.lt
                  have HKB := Lib.hid hkb
                  have HTT := Lib.hid htt
                  have HWENT := Lib.hid hW
                  have HW9c := Lib.hid hwr9
                  have HG1U := Lib.hid hg1u
                  have HG1T := Lib.hid hg1t
                  clear hkb hW hIb hnb hyb hwr9 hg1u hg1t htt hOc hVc
                  go_wp2_with fail
                  refine (HSTP.out _ (Below.refl _ _)).mono ?_
                  rintro e w38 ⟨g9, c9, rfl, hg9, hown9, hb38⟩
                  have s38 := hb38.size
                  have HRd : Hid (RS w38 O D WB la lc c cc ys (.slice ae g.l.length ce) av cv lo hi g1) := HRc.out.below hb38
                  have HVd : Hid (Box w38 V 83 [.slice a7 kb.left.length c7, .bool kb.on, .int .i64 (kb.t.k : Int), .int .i64 (kb.t.x : Int), .int .i64 kb.y, .int .i64 (kb.t.st : Int), .int .i64 (kb.t.u : Int), .int .i64 (tV kb.t kb.y), .int .i64 (kb.t.w : Int), .int .i64 (kb.t.r : Int), .bool kb.t.dn, .int .i64 (kb.t.res : Int), .int .i64 (kb.bg : Int), .int .i64 (kb.mt : Int)]) := (show Box wc V 83 [.slice a7 kb.left.length c7, .bool kb.on, .int .i64 (kb.t.k : Int), .int .i64 (kb.t.x : Int), .int .i64 kb.y, .int .i64 (kb.t.st : Int), .int .i64 (kb.t.u : Int), .int .i64 (tV kb.t kb.y), .int .i64 (kb.t.w : Int), .int .i64 (kb.t.r : Int), .bool kb.t.dn, .int .i64 (kb.t.res : Int), .int .i64 (kb.bg : Int), .int .i64 (kb.mt : Int)] from HB7x.out).below hb38
                  have HW9d : Hid (Below w9.heap.size w9 w38) := HW9c.out.trans (hb38.mono HW9c.out.size)
                  have HOWN9 := Lib.hid hown9
                  have hOd := HRd.out.box
                  obtain ⟨_, _, _, _, _, _⟩ := hOd.three
                  obtain ⟨_, _, _, _, _, _, _, _, _, _, _, _, _, _⟩ := HVd.out.c14
                  obtain ⟨_, _, _, _⟩ := HVd.out.f14
                  have hOl8 := hOd.lt
                  have hVl8 := HVd.out.lt
                  have hOV : O ≠ V := by omega
                  have hVO : V ≠ O := by omega
                  have HG9 := Lib.hid hg9
                  have hupl : (ups g.up pr kb.t).length = la := by have := HWENT.out.F'.len; rw [← HKB.out]; exact this
                  have hevc : ∀ q, (Value.slice ae g.l.length ce).ownBlock = some q → q ≠ g9 := fun q hq => by have := HRc.out.evs.lt q hq; omega
                  have hDg9 : D < g9 := by have := HRc.out.ds; omega
                  have HR39 : Hid (RS (w38.setCell ⟨O, 1, none⟩ (.slice (some ⟨g9, 0, none⟩) la c9)) O D WB la lc c cc ys (.slice ae g.l.length ce) (some ⟨g9, 0, none⟩) c9 g9 (g9 + 1) { g1 with up := ups g.up pr kb.t }) := HRd.out.newup hown9 hupl hDg9 hevc
                  clear hb38 hown9 hOd hg9 HSTP HB7x HRc HW9c hupl hevc
                  go_upto_region 39 with fail
                  have hHV39 := HVd.out.setOther (a := ⟨O, 1, none⟩) hVO (.slice (some ⟨g9, 0, none⟩) la c9)
                  have hXd := (HXB.out.below HW9d.out).setOther (a := ⟨O, 1, none⟩) (by show X ≠ O; omega) (.slice (some ⟨g9, 0, none⟩) la c9)
                  have hBRd := (HBR9.out.below HW9d.out).setOther (a := ⟨O, 1, none⟩) (by show w.heap.size ≠ O; omega) (.slice (some ⟨g9, 0, none⟩) la c9)
                  have hLd : LeftAt (w38.setCell ⟨O, 1, none⟩ (.slice (some ⟨g9, 0, none⟩) la c9)) O D WB a7 kb.left := HL7.out.agree fun b b1 b2 _ => (Below.heap_setCell w38 ⟨O, 1, none⟩ _ b (by show b ≠ O; omega)).trans (HW9d.out.block b (by rw [HVS.out]; omega))
                  have hBd : Below w.heap.size w (w38.setCell ⟨O, 1, none⟩ (.slice (some ⟨g9, 0, none⟩) la c9)) := (HB9.out.trans (HW9d.out.mono HB9.out.size)).setCell (p := ⟨O, 1, none⟩) (by show w.heap.size ≤ O; omega) _
                  have hszd : (w38.setCell ⟨O, 1, none⟩ (.slice (some ⟨g9, 0, none⟩) la c9)).heap.size = w38.heap.size := by simp
                  have kS : Below (w38.setCell ⟨O, 1, none⟩ (.slice (some ⟨g9, 0, none⟩) la c9)).heap.size (w38.setCell ⟨O, 1, none⟩ (.slice (some ⟨g9, 0, none⟩) la c9)) ((w38.setCell ⟨O, 1, none⟩ (.slice (some ⟨g9, 0, none⟩) la c9)).alloc (.cells #[.slice (some ⟨g9, 0, none⟩) la c9, .int .i64 (tt.k : Int), .int .i64 (tt.x : Int), .int .i64 kb.y, .int .i64 (tt.st : Int), .int .i64 (tt.u : Int), .int .i64 (tV tt kb.y), .int .i64 (tt.w : Int), .int .i64 (tt.r : Int), .bool tt.dn, .int .i64 (tt.res : Int)] 94)) := by go_grown
                  have bS := Box.new (w38.setCell ⟨O, 1, none⟩ (.slice (some ⟨g9, 0, none⟩) la c9)) 94 [.slice (some ⟨g9, 0, none⟩) la c9, .int .i64 (tt.k : Int), .int .i64 (tt.x : Int), .int .i64 kb.y, .int .i64 (tt.st : Int), .int .i64 (tt.u : Int), .int .i64 (tV tt kb.y), .int .i64 (tt.w : Int), .int .i64 (tt.r : Int), .bool tt.dn, .int .i64 (tt.res : Int)]
                  rw [hszd] at bS
                  simp only [List.toArray] at bS
                  have HR40 := Lib.hid (HR39.out.below kS)
                  have HV40 := Lib.hid (hHV39.below kS)
                  have HX40 := Lib.hid (hXd.below kS)
                  have HBR40 := Lib.hid (hBRd.below kS)
                  have HL40 := Lib.hid (hLd.agree (fun b _ b2 _ => kS.block b (by rw [hszd]; omega)))
                  have HB40 := Lib.hid (hBd.trans (kS.mono hBd.size))
                  generalize (w38.setCell ⟨O, 1, none⟩ (.slice (some ⟨g9, 0, none⟩) la c9)).alloc (.cells #[.slice (some ⟨g9, 0, none⟩) la c9, .int .i64 (tt.k : Int), .int .i64 (tt.x : Int), .int .i64 kb.y, .int .i64 (tt.st : Int), .int .i64 (tt.u : Int), .int .i64 (tV tt kb.y), .int .i64 (tt.w : Int), .int .i64 (tt.r : Int), .bool tt.dn, .int .i64 (tt.res : Int)] 94) = w40 at *
                  obtain ⟨SB, hSB⟩ : ∃ SB, w38.heap.size = SB := ⟨_, rfl⟩
                  rw [hSB] at bS hVl8
                  have HSB := Lib.hid bS
                  have hSl := bS.lt
                  rw [hSB]
                  clear hHV39 hXd hBRd hLd hBd hszd kS bS hSB HRd HVd HR39 hOl8
                  obtain ⟨_, _, _, _, _, _, _, _, _, _, _⟩ := HSB.out.c11
                  obtain ⟨_, _, _, _, _, _, _, _, _, _, _, _, _, _⟩ := HV40.out.c14
                  obtain ⟨_, _, _, _⟩ := HV40.out.f14
                  have hV40l := HV40.out.lt
                  have hO40 := HR40.out.box
                  obtain ⟨_, _, _, _, _, _⟩ := hO40.three
                  have hO40l := hO40.lt
                  clear hO40
                  have hz : ∃ z mk, (z = true ∧ mk = g1.tm ∧ ((tt.st : Int) == 7) = true ∧ ((kb.t.st : Int) != 7) = true) ∨ (z = false ∧ mk = kb.mt ∧ ((tt.st : Int) == 7) = false) ∨ (z = false ∧ mk = kb.mt ∧ ((tt.st : Int) == 7) = true ∧ ((kb.t.st : Int) != 7) = false) := by
                    by_cases h1 : tt.st = 7
                    · by_cases h2 : kb.t.st = 7
                      · exact ⟨false, kb.mt, .inr (.inr ⟨rfl, rfl, by simp [h1], by simp [h2]⟩)⟩
                      · exact ⟨true, g1.tm, .inl ⟨rfl, rfl, by simp [h1], by simp; omega⟩⟩
                    · exact ⟨false, kb.mt, .inr (.inl ⟨rfl, rfl, by simp; omega⟩)⟩
                  obtain ⟨z, mk, hz⟩ := hz
                  have HZ := Lib.hid hz
                  clear hz
                  go_cut [176] from 167 to 176 (fun cx wx => cx = .bool z ∧ w40 = wx)
                  case first =>
                    as_aux_lemma =>
                    rcases HZ.out with ⟨rfl, _, h1, h2⟩ | ⟨rfl, _, h1⟩ | ⟨rfl, _, h1, h2⟩
                    · go_wp2_with fail
                      go_meet
                      exact ⟨rfl, rfl⟩
                    · go_wp2_with fail
                      go_meet
                      exact ⟨rfl, rfl⟩
                    · go_wp2_with fail
                      go_meet
                      exact ⟨rfl, rfl⟩
                  case rest =>
                  obtain ⟨rfl, rfl⟩ := hcut
                  go_upto_if 176 with fail
                  go_cut [] (fun wx => Hid (Box wx V 83 [.slice a7 kb.left.length c7, .bool kb.on, .int .i64 (kb.t.k : Int), .int .i64 (kb.t.x : Int), .int .i64 kb.y, .int .i64 (kb.t.st : Int), .int .i64 (kb.t.u : Int), .int .i64 (tV kb.t kb.y), .int .i64 (kb.t.w : Int), .int .i64 (kb.t.r : Int), .bool kb.t.dn, .int .i64 (kb.t.res : Int), .int .i64 (kb.bg : Int), .int .i64 (mk : Int)]) ∧ Two V V w40 wx)
                  case first =>
                    as_aux_lemma =>
                    rcases HZ.out with ⟨rfl, hm, _⟩ | ⟨rfl, hm, _⟩ | ⟨rfl, hm, _⟩
                    · go_wp2_with fail
                      go_meet
                      exact ⟨by rw [hm]; exact HV40.out.set 13 _, (Two.refl V V w40).set V 13 (.inl rfl) _⟩
                    · go_wp2_with fail
                      go_meet
                      exact ⟨by rw [hm]; exact HV40.out, Two.refl V V w40⟩
                    · go_wp2_with fail
                      go_meet
                      exact ⟨by rw [hm]; exact HV40.out, Two.refl V V w40⟩
                  case rest =>
                  obtain ⟨HVM, htw⟩ := hcut
                  have hSVne : SB ≠ V := by omega
                  obtain ⟨_, _, _, _, _, _, _, _, _, _, _⟩ := (htw.box HSB.out hSVne hSVne).c11
                  have hSBl := (htw.box HSB.out hSVne hSVne).lt
                  obtain ⟨_, _, _, _, _, _, _, _, _, _, _, _, _, _⟩ := HVM.out.c14
                  have hVMl := HVM.out.lt
                  have HONE : Hid (∀ v ∈ ([.int .i64 (tt.k : Int), .int .i64 (tt.x : Int), .int .i64 kb.y, .int .i64 (tt.st : Int), .int .i64 (tt.u : Int), .int .i64 (tV tt kb.y), .int .i64 (tt.w : Int), .int .i64 (tt.r : Int), .bool tt.dn, .int .i64 (tt.res : Int)] : List Value), v.oneCell' = true) := by
                    intro v hv
                    simp at hv
                    rcases hv with rfl | rfl | rfl | rfl | rfl | rfl | rfl | rfl | rfl | rfl <;> rfl
                  have HTW := Lib.hid htw
                  clear htw
                  go_upto_if 185 with (refine wpList_store_part rfl 81 _ _ rfl V 2 [.slice a7 kb.left.length c7, .bool kb.on, .int .i64 (kb.t.k : Int), .int .i64 (kb.t.x : Int), .int .i64 kb.y, .int .i64 (kb.t.st : Int), .int .i64 (kb.t.u : Int), .int .i64 (tV kb.t kb.y), .int .i64 (kb.t.w : Int), .int .i64 (kb.t.r : Int), .bool kb.t.dn, .int .i64 (kb.t.res : Int), .int .i64 (kb.bg : Int), .int .i64 (mk : Int)] [.int .i64 (tt.k : Int), .int .i64 (tt.x : Int), .int .i64 kb.y, .int .i64 (tt.st : Int), .int .i64 (tt.u : Int), .int .i64 (tV tt kb.y), .int .i64 (tt.w : Int), .int .i64 (tt.r : Int), .bool tt.dn, .int .i64 (tt.res : Int)] [.slice a7 kb.left.length c7, .bool kb.on, .int .i64 (tt.k : Int), .int .i64 (tt.x : Int), .int .i64 kb.y, .int .i64 (tt.st : Int), .int .i64 (tt.u : Int), .int .i64 (tV tt kb.y), .int .i64 (tt.w : Int), .int .i64 (tt.r : Int), .bool tt.dn, .int .i64 (tt.res : Int), .int .i64 (kb.bg : Int), .int .i64 (mk : Int)] rfl rfl 83 HVM.out Tryd.taskSize (by simp) rfl HONE.out ?_; intro w41 BV41 ht41; obtain ⟨_, _, _, _, _, _, _, _, _, _, _, _, _, _⟩ := BV41.c14; obtain ⟨_, _, _, _⟩ := BV41.f14; have hV41 := BV41.lt)
                  have h2 := HTW.out.trans ht41
                  have hVg : V < g9 := by have := HG9.out; have := HW7.out; omega
                  have hevV : ∀ q, (Value.slice ae g.l.length ce).ownBlock = some q → q ≠ V := fun q hq => by have := HR9.out.evs.lt q hq; have := HVS.out; omega
                  have HR41 := Lib.hid (HR40.out.two h2 (by omega) hVg hevV)
                  have HX41 := Lib.hid (h2.box HX40.out (by omega) (by omega))
                  have HBR41 := Lib.hid (h2.box HBR40.out (by omega) (by omega))
                  have HL41 := Lib.hid (HL40.out.agree fun b _ b2 _ => h2.block b (by have := hV40l; omega) (by omega) (by omega))
                  have HB41 := Lib.hid (HB40.out.trans (h2.below HB40.out.size (by omega) (by omega)))
                  have HBV41 := Lib.hid BV41
                  clear h2 ht41 BV41 hevV
                  have hkon : kb.on = true := by have := HWENT.out.on; rw [HKB.out] at this; exact this
                  have hspE : g.sp pr x = ⟨kb.left, !tt.dn, tt, kb.y, kb.bg, mk⟩ := by
                    unfold Gm.sp
                    rw [HKB.out]
                    unfold Wk.step
                    rw [HTT.out]
                    have hmk : (if tt.st = 7 ∧ kb.t.st ≠ 7 then g.tm + 1 else kb.mt) = mk := by
                      have e1 : g1.tm = g.tm + 1 := HG1T.out
                      rcases HZ.out with ⟨_, hm, h1, h2⟩ | ⟨_, hm, h1⟩ | ⟨_, hm, h1, h2⟩
                      · have h1 : (tt.st : Int) = 7 := by simpa using h1
                        have h2 : ¬ (kb.t.st : Int) = 7 := by simpa using h2
                        rw [if_pos ⟨by omega, by omega⟩, hm, e1]
                      · have h1 : ¬ (tt.st : Int) = 7 := by simpa using h1
                        rw [if_neg (fun q => by have := q.1; omega), hm]
                      · have h2 : (kb.t.st : Int) = 7 := by simpa using h2
                        rw [if_neg (fun q => by have := q.2; omega), hm]
                    rw [hmk]
                  obtain ⟨g2, hg2⟩ : ∃ g2 : Gm, { g1 with up := ups g.up pr kb.t } = g2 := ⟨_, rfl⟩
                  rw [hg2] at HR41
                  have hg2l : g2.l = g.l := by rw [← hg2, ← HG1.out]
                  have hg2t : g2.tm = g1.tm := by rw [← hg2]
                  obtain ⟨SP, hSP⟩ : ∃ SP, g.sp pr x = SP := ⟨_, rfl⟩
                  have HSP := Lib.hid hSP
                  rw [hSP] at hspE
                  have HSPE := Lib.hid hspE
                  have HG2 := Lib.hid hg2
                  have HG2L := Lib.hid hg2l
                  have HG2T := Lib.hid hg2t
                  have HKON := Lib.hid hkon
                  have hO41 := HR41.out.box
                  obtain ⟨cO0, _, cO2, _, _, _⟩ := hO41.three
                  have hO41l := hO41.lt
                  have hX41c := HX41.out.cell 0
                  simp only [List.getElem?_cons_zero] at hX41c
                  have hX41l := HX41.out.lt
                  obtain ⟨gl, hgl⟩ : ∃ gl, g.l.length = gl := ⟨_, rfl⟩
                  have HGLL := Lib.hid hgl
                  rw [hgl] at cO0
                  rw [hg2t] at cO2
                  clear hkon hspE hSP hg2 hg2l hg2t hO41 hgl
                  go_cut [] (fun wx => ∃ (ev2 : Value) (l2 : List Ev), Hid (l2 = if tt.dn then g.l ++ [evOf x SP (g.tm + 1)] else g.l) ∧ Hid (RS wx O D WB la lc c cc ys ev2 (some ⟨g9, 0, none⟩) c9 g9 (g9 + 1) { g2 with l := l2 }) ∧ Hid (Box wx V 83 [.slice a7 kb.left.length c7, .bool (!tt.dn), .int .i64 (tt.k : Int), .int .i64 (tt.x : Int), .int .i64 kb.y, .int .i64 (tt.st : Int), .int .i64 (tt.u : Int), .int .i64 (tV tt kb.y), .int .i64 (tt.w : Int), .int .i64 (tt.r : Int), .bool tt.dn, .int .i64 (tt.res : Int), .int .i64 (kb.bg : Int), .int .i64 (mk : Int)]) ∧ Hid (Box wx X 91 [.int .i64 (x : Int), .slice c lc cc, .int .i64 ((min (g.tm + 1) lc : Nat) : Int), .int .i64 (x : Int)]) ∧ Hid (Box wx w.heap.size 30 [.slice none 0 0, .slice none 0 0, .int .i64 0]) ∧ Hid (LeftAt wx O D WB a7 kb.left) ∧ Hid (Below w.heap.size w wx) ∧ Hid (∀ q, ev2.ownBlock = some q → q ≠ V))
                  case first =>
                    cases hdn : tt.dn with
                    | false =>
                      have HDN := Lib.hid hdn
                      clear hdn
                      have hV0 : Box w41 V 83 [.slice a7 kb.left.length c7, .bool (!tt.dn), .int .i64 (tt.k : Int), .int .i64 (tt.x : Int), .int .i64 kb.y, .int .i64 (tt.st : Int), .int .i64 (tt.u : Int), .int .i64 (tV tt kb.y), .int .i64 (tt.w : Int), .int .i64 (tt.r : Int), .bool tt.dn, .int .i64 (tt.res : Int), .int .i64 (kb.bg : Int), .int .i64 (mk : Int)] := by
                        have := HBV41.out
                        rw [HKON.out] at this
                        rw [HDN.out] at this ⊢
                        exact this
                      have hR0 : RS w41 O D WB la lc c cc ys (.slice ae g.l.length ce) (some ⟨g9, 0, none⟩) c9 g9 (g9 + 1) { g2 with l := g.l } := by
                        have := HR41.out
                        rw [show ({ g2 with l := g.l } : Gm) = g2 by rw [← HG2L.out]]
                        exact this
                      have HV0 := Lib.hid hV0
                      have HR0 := Lib.hid hR0
                      clear hV0 hR0
                      go_wp2_with (simp only [HDN.out])
                      go_meet
                      refine ⟨_, g.l, ?_, HR0.out, ?_, HX41.out, HBR41.out, HL41.out, HB41.out, fun q hq => by have := HR9.out.evs.lt q hq; have := HVS.out; omega⟩
                      · show g.l = _
                        first | rfl | (rw [HDN.out]; rfl)
                      · have := HV0.out
                        first | exact this | (rw [HDN.out] at this; exact this)
                    | true =>
                      have HDN := Lib.hid hdn
                      clear hdn
                      obtain ⟨v0, hv0, hvz0, hvz1, hvz2⟩ := info_parts Tryd.peventInfo1
                      have hP : ∃ (z2 : Bool) (P : Nat), (z2 = true ∧ P = mk ∧ ((tt.k : Int) == 2) = true ∧ ((tt.res : Int) == 0) = true) ∨ (z2 = false ∧ P = g1.tm ∧ ((tt.k : Int) == 2) = false) ∨ (z2 = false ∧ P = g1.tm ∧ ((tt.k : Int) == 2) = true ∧ ((tt.res : Int) == 0) = false) := by
                        by_cases h1 : tt.k = 2
                        · by_cases h2 : tt.res = 0
                          · exact ⟨true, mk, .inl ⟨rfl, rfl, by simp [h1], by simp [h2]⟩⟩
                          · exact ⟨false, g1.tm, .inr (.inr ⟨rfl, rfl, by simp [h1], by simp; omega⟩)⟩
                        · exact ⟨false, g1.tm, .inr (.inl ⟨rfl, rfl, by simp; omega⟩)⟩
                      obtain ⟨z2, P, hP⟩ := hP
                      have HPP := Lib.hid hP
                      have hev : ecells (evOf x SP (g.tm + 1)) = [.int .i64 (x : Int), .int .i64 (tt.k : Int), .int .i64 (tt.x : Int), .int .i64 kb.y, .int .i64 (tt.res : Int), .int .i64 (kb.bg : Int), .int .i64 (P : Int), .int .i64 (g1.tm : Int)] := by
                        have e1 : g1.tm = g.tm + 1 := HG1T.out
                        have e2 : (if tt.k = 2 ∧ tt.res = 0 then mk else g.tm + 1) = P := by
                          rcases hP with ⟨_, hm, h1, h2⟩ | ⟨_, hm, h1⟩ | ⟨_, hm, h1, h2⟩
                          · have h1 : (tt.k : Int) = 2 := by simpa using h1
                            have h2 : (tt.res : Int) = 0 := by simpa using h2
                            rw [if_pos ⟨by omega, by omega⟩, hm]
                          · have h1 : ¬ (tt.k : Int) = 2 := by simpa using h1
                            rw [if_neg (fun q => by have := q.1; omega), hm, e1]
                          · have h2 : ¬ (tt.res : Int) = 0 := by simpa using h2
                            rw [if_neg (fun q => by have := q.2; omega), hm, e1]
                        rw [HSPE.out]
                        unfold evOf ecells
                        simp only
                        rw [← e2, e1]
                        congr
                        all_goals (first | rfl | (split <;> rfl))
                      have HEC := Lib.hid hev
                      have hevs := HR41.out.evs
                      rw [HG2L.out, HGLL.out] at hevs
                      have HEVS := Lib.hid hevs
                      have HEO : Hid (∀ q, (Value.slice ae gl ce).ownBlock = some q → D + 1 ≤ q ∧ q < V) := fun q hq => by
                        have := HR9.out.evs.lt q (by rw [HGLL.out]; exact hq)
                        have := HVS.out
                        omega
                      have hgl2 : gl ≤ 268439552 := by
                        have h1 := run_lens (pr := pr) (picks := xs) (g := gm0 la (ss.map (valid la))) t
                        rw [HG.out, HGLL.out] at h1
                        have h2 : (gm0 la (ss.map (valid la))).l.length = 0 := rfl
                        omega
                      have HONE8 : Hid (∀ v ∈ ([.int .i64 (x : Int), .int .i64 (tt.k : Int), .int .i64 (tt.x : Int), .int .i64 kb.y, .int .i64 (tt.res : Int), .int .i64 (kb.bg : Int), .int .i64 (P : Int), .int .i64 (g1.tm : Int)] : List Value), v.oneCell' = true) := by
                        show ∀ v ∈ _, _
                        rw [← HEC.out]; exact ecells_one _
                      clear hP hev hevs
                      go_upto_region 44 with (simp only [HDN.out])
                      go_cut [198] from 188 to 198 (fun cx wx => cx = .bool z2 ∧ w41 = wx)
                      case first =>
                        rcases HPP.out with ⟨rfl, _, h1, h2⟩ | ⟨rfl, _, h1⟩ | ⟨rfl, _, h1, h2⟩
                        · go_wp2_with fail
                          go_meet
                          exact ⟨rfl, rfl⟩
                        · go_wp2_with fail
                          go_meet
                          exact ⟨rfl, rfl⟩
                        · go_wp2_with fail
                          go_meet
                          exact ⟨rfl, rfl⟩
                      case rest =>
                      obtain ⟨rfl, rfl⟩ := hcut
                      go_upto_if 198 with fail
                      go_cut [21] from 199 to 200 (fun cx wx => cx = .int .i64 (P : Int) ∧ w41 = wx)
                      case first =>
                        rcases HPP.out with ⟨rfl, hm, _⟩ | ⟨rfl, hm, _⟩ | ⟨rfl, hm, _⟩
                        · go_wp2_with fail
                          go_meet
                          exact ⟨by rw [hm] <;> (first | rfl | rw [HG2T.out]), rfl⟩
                        · go_wp2_with fail
                          go_meet
                          exact ⟨by rw [hm] <;> (first | rfl | rw [HG2T.out]), rfl⟩
                        · go_wp2_with fail
                          go_meet
                          exact ⟨by rw [hm] <;> (first | rfl | rw [HG2T.out]), rfl⟩
                      case rest =>
                      obtain ⟨rfl, rfl⟩ := hcut
                      go_wp2_with (at_builtin; refine wpList_append_lies _ rfl _ _ 26 rfl (D + 1) 42 v0 (.agg #[.int .i64 0, .int .i64 0, .int .i64 0, .int .i64 0, .int .i64 0, .int .i64 0, .int .i64 0, .int .i64 0]) 8 64 Tryd.underlying26 hv0 hvz0 hvz1 hvz2 rfl (by decide) _ gl (cellsE g.l) rfl (HEVS.out.alloc _) ⟨w41.heap.size, 0, none⟩ 1 1 [.int .i64 (x : Int), .int .i64 (tt.k : Int), .int .i64 (tt.x : Int), .int .i64 kb.y, .int .i64 (tt.res : Int), .int .i64 (kb.bg : Int), .int .i64 (P : Int), .int .i64 (g1.tm : Int)] rfl rfl (fun j u hu => by rw [Addr.add_lit, Nat.zero_add, (Box.new w41 42 [.int .i64 (x : Int), .int .i64 (tt.k : Int), .int .i64 (tt.x : Int), .int .i64 kb.y, .int .i64 (tt.res : Int), .int .i64 (kb.bg : Int), .int .i64 (P : Int), .int .i64 (g1.tm : Int)]).cell j]; exact hu) HONE8.out (by decide) (by unfold maxLen; omega) (by omega) (by have := HR41.out.ds; simp; omega) _ rfl ?_; intro gq cq w46 hown46 hgr46 hat46 hlt46; have hnO : some O ≠ (Value.slice ae gl ce).ownBlock := (fun e => (by have := (HEO.out O e.symm).1; omega)); have hnV : some V ≠ (Value.slice ae gl ce).ownBlock := (fun e => (by have := (HEO.out V e.symm).2; omega)); have hO46 := (HR41.out.box.alloc (.cells #[.int .i64 (x : Int), .int .i64 (tt.k : Int), .int .i64 (tt.x : Int), .int .i64 kb.y, .int .i64 (tt.res : Int), .int .i64 (kb.bg : Int), .int .i64 (P : Int), .int .i64 (g1.tm : Int)] 42)).grown hgr46 hnO; have hV46 := (HBV41.out.alloc (.cells #[.int .i64 (x : Int), .int .i64 (tt.k : Int), .int .i64 (tt.x : Int), .int .i64 kb.y, .int .i64 (tt.res : Int), .int .i64 (kb.bg : Int), .int .i64 (P : Int), .int .i64 (g1.tm : Int)] 42)).grown hgr46 hnV; obtain ⟨_, _, _, _, _, _⟩ := hO46.three; have hO46l := hO46.lt; obtain ⟨_, _, _, _, _, _, _, _, _, _, _, _, _, _⟩ := hV46.c14; obtain ⟨_, _, _, _⟩ := hV46.f14; have hV46l := hV46.lt; have HV46 := Lib.hid hV46; clear hO46 hV46)
                      go_meet
                      have hat47 : (Value.slice ae gl ce).ownBlock = some gq ∨ gq = w41.heap.size + 1 := by
                        have h9 := hat46
                        rw [World.size_alloc] at h9
                        exact h9
                      have hVX : O ≠ V := by omega
                      have hat9 : ∀ q, (Value.slice (some ⟨gq, 0, none⟩) (gl + 1) cq).ownBlock = some q → q ≠ V := fun q hq => by
                        have e : gq = q := by simpa [Value.ownBlock] using hq
                        subst e
                        rcases hat47 with h | h
                        · have := (HEO.out gq h).2; omega
                        · omega
                      have hkeep : ∀ b, b < w41.heap.size → (Value.slice ae gl ce).ownBlock ≠ some b → b ≠ O → b ≠ V → ((w46.setCell ⟨O, 0, none⟩ (.slice (some ⟨gq, 0, none⟩) (gl + 1) cq)).setCell ⟨V, 1, none⟩ (.bool false)).heap[b]? = w41.heap[b]? := fun b h1 h2 h3 h4 => by
                        rw [Below.heap_setCell _ ⟨V, 1, none⟩ _ b h4, Below.heap_setCell _ ⟨O, 0, none⟩ _ b h3, hgr46.block b (by rw [World.size_alloc]; omega) (fun e => h2 e.symm), Below.heap_alloc _ _ _ h1]
                      refine ⟨.slice (some ⟨gq, 0, none⟩) (gl + 1) cq, g.l ++ [evOf x SP (g.tm + 1)], ?_, ?_, ?_, ?_, ?_, ?_, ?_, hat9⟩
                      · show _ = _
                        first | rfl | (rw [HDN.out]; rfl)
                      · have hne := HR41.out.newev (W := w41.alloc (.cells #[.int .i64 (x : Int), .int .i64 (tt.k : Int), .int .i64 (tt.x : Int), .int .i64 kb.y, .int .i64 (tt.res : Int), .int .i64 (kb.bg : Int), .int .i64 (P : Int), .int .i64 (g1.tm : Int)] 42)) (w9 := w46) (gq := gq) (cq := cq) (e := evOf x SP (g.tm + 1)) ((Below.refl _ _).alloc (Nat.le_refl _) _) (by rw [HGLL.out]; exact hgr46) (by rw [HG2L.out, HGLL.out, HEC.out]; exact hown46) (by rw [HGLL.out, World.size_alloc]; exact hat47)
                        rw [HG2L.out, HGLL.out] at hne
                        exact hne.two ((Two.refl V V _).set V 1 (.inl rfl) _) (by omega) (by have := HG9.out; have := HW7.out; omega) hat9
                      · have := (HV46.out.setOther (a := ⟨O, 0, none⟩) (show V ≠ O by omega) (.slice (some ⟨gq, 0, none⟩) (gl + 1) cq)).set 1 (.bool false)
                        first | exact this | (rw [HDN.out] at this ⊢; exact this) | (rw [HDN.out] at this; exact this)
                      · exact (hkeep X hX41l (fun e => by have := HEX.out X (by rw [HGLL.out]; exact e); omega) (by omega) (by omega)).trans HX41.out
                      · exact (hkeep w.heap.size HBR41.out.lt (fun e => by have := (HEO.out _ e).1; omega) (by omega) (by omega)).trans HBR41.out
                      · exact HL41.out.agree fun b b1 b2 _ => hkeep b (by have := HR41.out.ds; omega) (fun e => by have := (HEO.out b e).1; omega) (by omega) (by omega)
                      · exact (((HB41.out.alloc HB41.out.size _).grown hgr46 (by rw [World.size_alloc]; have := HB41.out.size; omega) fun q hq => by have := (HEO.out q hq).1; omega).setCell (p := ⟨O, 0, none⟩) (by show w.heap.size ≤ O; omega) _).setCell (p := ⟨V, 1, none⟩) (by show w.heap.size ≤ V; omega) _
                  case rest =>
                  obtain ⟨ev2, l2, HL2, HR46, HV46, HX46, HBR46, HLF46, HB46, HEV46⟩ := hcut
                  obtain ⟨_, _, _, _, _, _, _, _, _, _, _, _, _, _⟩ := HV46.out.c14
                  have hV46l := HV46.out.lt
                  have hX46c := HX46.out.cell 0
                  simp only [List.getElem?_cons_zero] at hX46c
                  have hX46l := HX46.out.lt
                  have hx02 : (0 : Int) ≤ (x : Int) := by omega
                  have hx12 : (x : Int) < (j : Int) := by omega
                  have TX2 : ∀ W0, Sem.run Tryd.prog (Instr.indexAt 79 (.slice (some ⟨WB, 0, none⟩) j cw) (.int .i64 (x : Int))) W0 = .ok (.pointer (some ⟨WB, x * 14, none⟩)) W0 := fun W0 => by go_simp
                  have HROW : Hid (RowsIn 14 wc WB ys) := HR46.out.rows.r
                  have HLEN : Hid (∀ y ∈ ys, y.length = 14) := HR46.out.rows.len
                  have HONE14 : Hid (∀ v ∈ ([.slice a7 kb.left.length c7, .bool (!tt.dn), .int .i64 (tt.k : Int), .int .i64 (tt.x : Int), .int .i64 kb.y, .int .i64 (tt.st : Int), .int .i64 (tt.u : Int), .int .i64 (tV tt kb.y), .int .i64 (tt.w : Int), .int .i64 (tt.r : Int), .bool tt.dn, .int .i64 (tt.res : Int), .int .i64 (kb.bg : Int), .int .i64 (mk : Int)] : List Value), v.oneCell' = true) := by
                    intro v hv
                    simp at hv
                    rcases hv with rfl | rfl | rfl | rfl | rfl | rfl | rfl | rfl | rfl | rfl | rfl | rfl | rfl | rfl <;> rfl
                  have hWBc := HROW.out.1
                  go_wp2_with (refine wpList_store_wrow rfl 83 _ _ rfl 14 WB x ys (rcell kw a' c') [.slice a7 kb.left.length c7, .bool (!tt.dn), .int .i64 (tt.k : Int), .int .i64 (tt.x : Int), .int .i64 kb.y, .int .i64 (tt.st : Int), .int .i64 (tt.u : Int), .int .i64 (tV tt kb.y), .int .i64 (tt.w : Int), .int .i64 (tt.r : Int), .bool tt.dn, .int .i64 (tt.res : Int), .int .i64 (kb.bg : Int), .int .i64 (mk : Int)] rfl rfl HROW.out HXR.out HLEN.out rfl Tryd.workSize HONE14.out ?_; intro w48 hr48 ht48; have HR48 := Lib.hid hr48; have HT48 := Lib.hid ht48; clear hr48 ht48)
                  have hSPc : rcell SP a7 c7 = [.slice a7 kb.left.length c7, .bool (!tt.dn), .int .i64 (tt.k : Int), .int .i64 (tt.x : Int), .int .i64 kb.y, .int .i64 (tt.st : Int), .int .i64 (tt.u : Int), .int .i64 (tV tt kb.y), .int .i64 (tt.w : Int), .int .i64 (tt.r : Int), .bool tt.dn, .int .i64 (tt.res : Int), .int .i64 (kb.bg : Int), .int .i64 (mk : Int)] := by rw [HSPE.out]; rfl
                  have hSPl : SP.left = kb.left := by rw [HSPE.out]
                  have hSPd : SP.t.dn = tt.dn := by rw [HSPE.out]
                  have hws2 : g2.ws = g.ws := by rw [← HG2.out, ← HG1.out]
                  have hadv : ({ ({ g2 with l := l2 } : Gm) with ws := ({ g2 with l := l2 } : Gm).ws.set x SP } : Gm) = adv pr g x := by
                    unfold adv
                    rw [HSP.out, HKB.out, hSPd, HL2.out, ← HG2.out, ← HG1.out]
                  have hrun : run pr xs (gm0 la (ss.map (valid la))) (t + 1) = adv pr g x := by
                    rw [run_next (by rw [HG.out]; exact HON.out), HG.out, HXW.out]
                  have hRF : RS w48 O D WB la lc c cc (ys.set x (rcell SP a7 c7)) ev2 (some ⟨g9, 0, none⟩) c9 g9 (g9 + 1) (run pr xs (gm0 la (ss.map (valid la))) (t + 1)) := by
                    rw [hrun, ← hadv]
                    refine HR46.out.store (k := SP) (a := a7) (c7 := c7) (by rw [hSPc]; exact HR48.out) HT48.out (by show x < g2.ws.length; rw [hws2, HWL.out]; exact hxw) (by rw [hSPl]; exact HC7.out) (by rw [hSPl]; exact HLF46.out)
                  have hWBw : w.heap.size ≤ WB := by omega
                  have hB48 : Below w.heap.size w w48 := HB46.out.trans (HT48.out.below HB46.out.size hWBw hWBw)
                  have hBR48 : Box w48 w.heap.size 30 [.slice none 0 0, .slice none 0 0, .int .i64 0] := HT48.out.box HBR46.out (by omega) (by omega)
                  have hNE2 : ∀ t', t' < t + 1 → on 0 (run pr xs (gm0 la (ss.map (valid la))) t').en ≠ [] := fun t' ht' => by
                    by_cases e : t' = t
                    · rw [e, HG.out]; exact HON.out
                    · exact HNE.out t' (by omega)
                  have htN : t < N := by have h1 := (st_bound HNE.out).2.1; have h2 := HN.out; omega
                  have hg9w : w.heap.size < g9 := by have := HG9.out; have := HB41.out.size; omega
                  have HRF := Lib.hid hRF
                  have HB48 := Lib.hid hB48
                  have HBR48 := Lib.hid hBR48
                  have HNE2 := Lib.hid hNE2
                  clear hRF hB48 hBR48 hNE2 hSPc hadv hrun hSPl hSPd hws2
                  go_roundg (N - (t + 1))
                  case measure => omega
                  case rel => exact ⟨t + 1, ys.set x (rcell SP a7 c7), ev2, some ⟨g9, 0, none⟩, c9, g9, g9 + 1, by omega, hg9w, HRF.out, HB48.out, HBR48.out, HNE2.out⟩

end Go.Proofs.YtpfcpeljfgmjgaaDoor
