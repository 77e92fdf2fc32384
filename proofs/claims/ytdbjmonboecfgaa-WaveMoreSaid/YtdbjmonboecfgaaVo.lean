/- The law WaveMore. -/
import Derived.Test.YtdbjmonboecfgaaVq
import Derived.Deep.CutRange
import Derived.Deep.DeepAppendRoom
namespace Go.Proofs.Ytdbjmonboecfgaa
open Go.RowKit Go.Maps
set_option linter.unusedVariables false
set_option linter.unusedSimpArgs false

/-! ### the same edges, or more -/
section
variable {g h : Gr}
theorem rch_mono (he : ∀ a b, ed g a b → ed h a b) {a b : Nat} (hr : Rch g a b) : Rch h a b := by
  induction hr with
  | refl => exact .refl
  | step _ e ih => exact .step ih (he _ _ e)
theorem mut_mono (hl : g.length = h.length) (he : ∀ a b, ed g a b → ed h a b) {i j : Nat} (hi : i < g.length) (hj : j < g.length) (hm : mutB g i j = true) : mutB h i j = true := by
  rw [mutB_iff hi hj] at hm
  rw [mutB_iff (by omega) (by omega)]
  exact ⟨rch_mono he hm.1, rch_mono he hm.2⟩
theorem led_sub (hl : g.length = h.length) (he : ∀ a b, ed g a b → ed h a b) : (ledS (mutB h) g.length).Sublist (ledS (mutB g) g.length) := by
  have e : ledS (mutB h) g.length = (ledS (mutB g) g.length).filter (leadS (mutB h)) := by
    unfold ledS
    rw [List.filter_filter]
    refine List.filter_congr fun i hi => ?_
    have hi := List.mem_range.1 hi
    cases q : leadS (mutB h) i with
    | false => rfl
    | true =>
      have : leadS (mutB g) i = true := by
        rw [lead_iff] at q ⊢
        intro j hj
        cases q2 : mutB g j i with
        | false => rfl
        | true =>
          have := mut_mono hl he (show j < g.length by omega) hi q2
          rw [q j hj] at this; cases this
      rw [this]; rfl
  rw [e]
  exact List.filter_sublist
theorem grpL_led (g : Gr) : (grpL g).length = (ledS (mutB g) g.length).length := by unfold grpL grpI grp2; rw [List.length_map]
theorem more_len (hl : g.length = h.length) (he : ∀ a b, ed g a b → ed h a b) : (grpL h).length ≤ (grpL g).length := by
  rw [grpL_led, grpL_led, ← hl]
  exact (led_sub hl he).length_le
theorem more_gof (hl : g.length = h.length) (he : ∀ a b, ed g a b → ed h a b) (hm : (grpL h).length = (grpL g).length) {x : Nat} (hx : x < g.length) : gof h x = gof g x := by
  have e : ledS (mutB h) g.length = ledS (mutB g) g.length := by
    refine (led_sub hl he).eq_of_length ?_
    rw [grpL_led, grpL_led, ← hl] at hm
    exact hm
  obtain ⟨h1, h2⟩ := gof_spec hx
  obtain ⟨r, h3, h4⟩ := grp_row h1
  have h2' : (x : Int) ∈ rowG (grpI (mutB g) g.length) (gof g x) := h2
  rw [h4] at h2'
  obtain ⟨j, hj, hs, ej⟩ := mem_memI.1 h2'
  have ej : x = j := by omega
  subst ej
  refine (gof_iff (by omega) (by omega)).1 ?_
  have h1' : gof g x < (grpI (mutB h) h.length).length := by
    have : (grpL h).length = (grpI (mutB h) h.length).length := rfl
    omega
  obtain ⟨r', h5, h6⟩ := grp_row h1'
  show (x : Int) ∈ rowG (grpI (mutB h) h.length) (gof g x)
  rw [h6]
  rw [← hl, e] at h5
  have h3' : (ledS (mutB g) g.length)[gof g x]? = some r := h3
  rw [h5] at h3'
  obtain rfl := Option.some.inj h3'
  exact mem_memI.2 ⟨x, by omega, mut_mono hl he (mem_led.1 (List.mem_of_getElem? h5)).1 hx hs, rfl⟩
theorem more_lv (hl : g.length = h.length) (he : ∀ a b, ed g a b → ed h a b) (hm : (grpL h).length = (grpL g).length) {i : Nat} (hi : i < (grpL g).length) : lvF g i ≤ lvF h i := by
  have r2 := ranked h
  rw [hm] at r2
  have := lev_mono (ranked g) r2 (fun i j hi hj q => by
    obtain ⟨hn, x, y, hx, hed, rfl, rfl⟩ := gEB_iff.1 q
    rw [gEB_iff]
    exact ⟨hn, x, y, by omega, he _ _ hed, more_gof hl he hm hx, more_gof hl he hm hed.2⟩) _ i (Nat.le_refl _) hi
  unfold lvF
  rw [hm]
  exact this
theorem same_lv (hl : g.length = h.length) (he : ∀ a b, ed g a b ↔ ed h a b) : lvL h = lvL g ∧ (grpL h).length = (grpL g).length := by
  have h1 := more_len hl (fun a b => (he a b).1)
  have h2 := more_len hl.symm (fun a b => (he a b).2)
  have hm : (grpL h).length = (grpL g).length := by omega
  refine ⟨ext_el (by rw [lvL_len, lvL_len]; exact hm) fun i hi => ?_, hm⟩
  rw [lvL_len] at hi
  rw [lvL_el hi, lvL_el (by omega)]
  have h3 := more_lv hl (fun a b => (he a b).1) hm (show i < (grpL g).length by omega)
  have h4 := more_lv hl.symm (fun a b => (he a b).2) hm.symm hi
  omega
end
/-- A row with an edge more. -/
theorem ed_more {g : Gr} {x : Nat} (hx : x < g.length) (r : List Int) (a b : Nat) (h : ed g a b) : ed (g.set x (rowG g x ++ r)) a b := by
  obtain ⟨h1, h2⟩ := h
  refine ⟨?_, by rw [List.length_set]; exact h2⟩
  by_cases e : x = a
  · subst e; rw [rowG_set_self hx]; exact List.mem_append_left _ h1
  · rw [rowG_set_other e]; exact h1
theorem ed_twice {g : Gr} {x : Nat} (hx : x < g.length) (a b : Nat) : ed g a b ↔ ed (g.set x (rowG g x ++ rowG g x ++ [-1, (g.length : Int)])) a b := by
  constructor
  · intro h
    have := ed_more hx (rowG g x ++ [-1, (g.length : Int)]) a b h
    rw [← List.append_assoc] at this
    exact this
  · rintro ⟨h1, h2⟩
    rw [List.length_set] at h2
    refine ⟨?_, h2⟩
    by_cases e : x = a
    · subst e
      rw [rowG_set_self hx] at h1
      simp only [List.mem_append, List.mem_cons, List.not_mem_nil, or_false] at h1
      rcases h1 with (h1 | h1) | h1 | h1
      · exact h1
      · exact h1
      · omega
      · omega
    · rw [rowG_set_other e] at h1; exact h1

/-- 'append' to a slice whose block is known, whatever is appended (nil, nothing): the block is that, or a new one. -/
theorem append_noneW {P : Program} {w : World} (base : Nat) (t ty e : TypeId) (i : TypeInfo) (size c : Nat) (ht : P.underlying t = some (.slice e)) (hi : P.info? e = some i)
    (v : Value) (n : Nat) (xs : List Value) (hown : w.ownsRow base e size v n xs) : (Builtin.append_ #[t, t] ty #[v, .slice none 0 c]).run P w = .ok v w := by
  rcases hown.2 with ⟨rfl, rfl⟩ | ⟨g, cap, cur, rfl, _, _, hnc, _⟩
  · simp [Builtin.append_, run_underlying ht, sizeOf, typeInfo, hi, Builtin.lenOf, Builtin.firstCells]
  · simp [Builtin.append_, run_underlying ht, sizeOf, typeInfo, hi, Builtin.lenOf, Builtin.firstCells, hnc, storeCells]
theorem wp_append_at {P : Program} {o : Oper} {a : Act} {w : World} {K : Act → World → Prop} {Q : Exit → Act → World → Prop} (s x : Operand) (t : TypeId)
    (ho : o.op = .call { callee := .builtin .append, args := #[s, x], argTypes := #[t, t] })
    (base : Nat) (e : TypeId) (i : TypeInfo) (z : Value) (size bytes : Nat) (ht : P.underlying t = some (.slice e)) (hi : P.info? e = some i) (hz : i.zero = some z)
    (hsize : i.size = size) (hby : i.bytes = bytes) (hzs : z.cells.size = size) (hsz : 0 < size)
    (g0 n cap : Nat) (xs : List Value) (hs : a.eval s = .slice (some ⟨g0, 0, none⟩) n cap) (hown : w.ownsRow base e size (.slice (some ⟨g0, 0, none⟩) n cap) n xs)
    (ao : Option Addr) (m c : Nat) (news : List Value) (hx : a.eval x = .slice ao m c) (hnil : ao = none → m = 0) (hl : news.length = m * size)
    (hnews : ∀ ad, ao = some ad → ∀ j u, news[j]? = some u → w.cell? (ad.add j) = some u) (h1 : ∀ u ∈ news, u.oneCell' = true)
    (h63 : n + m ≤ maxLen) (hbytes : (n + m) * bytes ≤ 140737488355328) (hbase : base ≤ w.heap.size)
    (h : ∀ g c' w', w'.ownsRow base e size (.slice (some ⟨g, 0, none⟩) (n + m) c') (n + m) (xs ++ news) → w.grownBy w' (some g0) → (g = g0 ∨ g = w.heap.size) → K (a.put o.dst (.slice (some ⟨g, 0, none⟩) (n + m) c')) w') : Oper.wp P o a w K Q := by
  have hnc : n ≤ cap := by
    rcases hown.2 with ⟨h0, _⟩ | ⟨g', cap', cur, hv, _, _, hnc, _⟩
    · cases h0
    · cases hv; exact hnc
  cases ao with
  | some ad =>
    by_cases hm : 0 < m
    · exact wp_append_lies w s x t ho base e i z size bytes ht hi hz hsize hby hzs hsz _ n xs hs hown ad m c news hx hl (hnews ad rfl) h1 hm h63 hbytes hbase _ rfl (fun g c' w' h2 h3 h4 _ => h g c' w' h2 h3 (by
        rcases h4 with h4 | h4
        · left; have : g0 = g := by simpa [Value.ownBlock] using h4
          exact this.symm
        · exact .inr h4))
    · obtain rfl : m = 0 := by omega
      exact wp_append_own_spare w s x t ho base e i size ht hi hsize g0 n cap xs hs hown ad 0 c news hx hl (hnews ad rfl) h1 (by omega) (fun w' h2 h3 => h g0 cap w' h2 h3 (.inl rfl))
  | none =>
    obtain rfl := hnil rfl
    obtain rfl : news = [] := List.eq_nil_of_length_eq_zero (by simpa using hl)
    have hrun := append_noneW (P := P) (w := w) base t o.type e i size c ht hi _ n xs hown
    unfold Oper.wp
    simp [execOp, ho, resolve, invoke, builtin, hs, hx, hrun, Result.andThen]
    exact h g0 cap w (by simpa using hown) (World.grownBy.refl _ _) (.inl rfl)
theorem step_append_at {P : Program} {ops : Array Oper} {o : Oper} {a : Act} {w : World} {K : Act → World → Prop} {Q : Exit → Act → World → Prop} {E : Prop} (hgd : o.guard = none) (s x : Operand) (t : TypeId)
    (ho : o.op = .call { callee := .builtin .append, args := #[s, x], argTypes := #[t, t] })
    (base : Nat) (e : TypeId) (i : TypeInfo) (z : Value) (size bytes : Nat) (ht : P.underlying t = some (.slice e)) (hi : P.info? e = some i) (hz : i.zero = some z)
    (hsize : i.size = size) (hby : i.bytes = bytes) (hzs : z.cells.size = size) (hsz : 0 < size)
    (g0 n cap : Nat) (xs : List Value) (hs : a.eval s = .slice (some ⟨g0, 0, none⟩) n cap) (hown : w.ownsRow base e size (.slice (some ⟨g0, 0, none⟩) n cap) n xs)
    (ao : Option Addr) (m c : Nat) (news : List Value) (hx : a.eval x = .slice ao m c) (hnil : ao = none → m = 0) (hl : news.length = m * size)
    (hnews : ∀ ad, ao = some ad → ∀ j u, news[j]? = some u → w.cell? (ad.add j) = some u) (h1 : ∀ u ∈ news, u.oneCell' = true)
    (h63 : n + m ≤ maxLen) (hbytes : (n + m) * bytes ≤ 140737488355328) (hbase : base ≤ w.heap.size)
    (h : ∀ g c' w', w'.ownsRow base e size (.slice (some ⟨g, 0, none⟩) (n + m) c') (n + m) (xs ++ news) → w.grownBy w' (some g0) → (g = g0 ∨ g = w.heap.size) → K (a.put o.dst (.slice (some ⟨g, 0, none⟩) (n + m) c')) w') : if Region.wanted o (yielded ops a.tmps) = true then Oper.wp P o a w K Q else E := by
  rw [if_pos (by simp [Region.wanted, hgd])]
  exact wp_append_at s x t ho base e i z size bytes ht hi hz hsize hby hzs hsz g0 n cap xs hs hown ao m c news hx hnil hl hnews h1 h63 hbytes hbase h
theorem wpList_append_at {P : Program} {w : World} {ops : Array Oper} {rest : List Oper} {o : Oper} {a : Act} {Q : Exit → Act → World → Prop} (hw : Region.wanted o (yielded ops a.tmps) = true) (s x : Operand) (t : TypeId)
    (ho : o.op = .call { callee := .builtin .append, args := #[s, x], argTypes := #[t, t] })
    (base : Nat) (e : TypeId) (i : TypeInfo) (z : Value) (size bytes : Nat) (ht : P.underlying t = some (.slice e)) (hi : P.info? e = some i) (hz : i.zero = some z)
    (hsize : i.size = size) (hby : i.bytes = bytes) (hzs : z.cells.size = size) (hsz : 0 < size)
    (g0 n cap : Nat) (xs : List Value) (hs : a.eval s = .slice (some ⟨g0, 0, none⟩) n cap) (hown : w.ownsRow base e size (.slice (some ⟨g0, 0, none⟩) n cap) n xs)
    (ao : Option Addr) (m c : Nat) (news : List Value) (hx : a.eval x = .slice ao m c) (hnil : ao = none → m = 0) (hl : news.length = m * size)
    (hnews : ∀ ad, ao = some ad → ∀ j u, news[j]? = some u → w.cell? (ad.add j) = some u) (h1 : ∀ u ∈ news, u.oneCell' = true)
    (h63 : n + m ≤ maxLen) (hbytes : (n + m) * bytes ≤ 140737488355328) (hbase : base ≤ w.heap.size)
    (h : ∀ g c' w', w'.ownsRow base e size (.slice (some ⟨g, 0, none⟩) (n + m) c') (n + m) (xs ++ news) → w.grownBy w' (some g0) → (g = g0 ∨ g = w.heap.size) → wpList P ops Q rest (a.put o.dst (.slice (some ⟨g, 0, none⟩) (n + m) c')) w') : wpList P ops Q (o :: rest) a w := by
  refine BigFrame.wpList_want hw fun K hK => ?_
  exact wp_append_at s x t ho base e i z size bytes ht hi hz hsize hby hzs hsz g0 n cap xs hs hown ao m c news hx hnil hl hnews h1 h63 hbytes hbase (fun g c' w' h2 h3 h4 => hK _ _ (h g c' w' h2 h3 h4))

/-! ### rows copied -/
theorem own_nought (w : World) : (w.alloc (.cells #[] 26)).ownsRow w.heap.size 26 1 (.slice (some ⟨w.heap.size, 0, none⟩) 0 0) 0 [] :=
  ⟨rfl, .inr ⟨w.heap.size, 0, #[], rfl, Nat.le_refl _, alloc_at w _, Nat.le_refl _, by unfold maxLen; omega, rfl, rfl⟩⟩
theorem own_noughtI (w : World) : (w.alloc (.cells #[] 3)).ownsRow w.heap.size 3 1 (.slice (some ⟨w.heap.size, 0, none⟩) 0 0) 0 [] :=
  ⟨rfl, .inr ⟨w.heap.size, 0, #[], rfl, Nat.le_refl _, alloc_at w _, Nat.le_refl _, by unfold maxLen; omega, rfl, rfl⟩⟩
structure VH (w : World) (hi n : Nat) (g : Gr) (vs : List Value) : Prop where
  len : vs.length = n
  glen : g.length = n
  row : ∀ i, i < n → ∃ ai ci, vg vs i = .slice ai (rowG g i).length ci ∧ Row 0 hi w ai (rowG g i).length (rowG g i)
theorem GI.heads {hi : Nat} {w : World} {b off n : Nat} {g : Gr} (h : GI hi w (some ⟨b, off, none⟩) n g) (hn : 0 < n) : ∃ vs, VH w hi n g vs ∧ ∀ i, i < n → w.cell? ⟨b, off + i, none⟩ = some (vg vs i) := by
  refine ⟨(List.range n).map fun i => (w.cell? ⟨b, off + i, none⟩).getD (.slice none 0 0), ⟨by simp, h.1, fun i hi => ?_⟩, fun i hi => ?_⟩
  · obtain ⟨b', off', ai, ci, e, _, h2, h3⟩ := h.row hi
    cases e
    refine ⟨ai, ci, ?_, h3⟩
    unfold vg
    rw [List.getD_eq_getElem?_getD, List.getElem?_map, List.getElem?_range hi]
    simp [h2]
  · obtain ⟨b', off', ai, ci, e, _, h2, h3⟩ := h.row hi
    cases e
    unfold vg
    rw [List.getD_eq_getElem?_getD, List.getElem?_map, List.getElem?_range hi]
    simp [h2]
theorem VH.one {w : World} {hi n : Nat} {g : Gr} {vs : List Value} (h : VH w hi n g vs) : ∀ u ∈ vs, u.oneCell' = true := by
  intro u hu
  obtain ⟨i, hi, rfl⟩ := List.getElem_of_mem hu
  obtain ⟨ai, ci, e, _⟩ := h.row i (by rw [← h.len]; exact hi)
  have e2 : vg vs i = vs[i] := by simp [vg, List.getD, hi]
  rw [← e2, e]; rfl
/-- Rows that were copied, one of them laid anew. -/
theorem gi_laid {w w9 : World} {hi n p c base x l c' : Nat} {g : Gr} {vs : List Value} {a : Option Addr} {r : List Int} (hv : VH w hi n g vs) (hb : Below hi w w9) (hown : w9.ownsRow base 26 1 (.slice (some ⟨p, 0, none⟩) n c) n vs) (hp : hi ≤ p) (hr : Row 0 w9.heap.size w9 a l r) (ha : ∀ b off, a = some ⟨b, off, none⟩ → b ≠ p) (hx : x < n) (hn : n ≤ 1000000) (hg : ∀ i, (rowG g i).length ≤ 1000000) (hl : l ≤ 1000000) :
    GI (w9.setCell ⟨p, x, none⟩ (.slice a l c')).heap.size (w9.setCell ⟨p, x, none⟩ (.slice a l c')) (some ⟨p, 0, none⟩) n (g.set x r) := by
  have hpl := (ownsRow_lo hown p rfl).2
  have hrl : r.length = l := hr.1
  have hhi : hi ≤ w9.heap.size := by omega
  refine ⟨by rw [List.length_set]; exact hv.glen, hn, fun i => ?_, .inr ⟨p, 0, rfl, by simpa [World.setCell] using hpl, fun i hi' => ?_⟩⟩
  · by_cases e : x = i
    · subst e; rw [rowG_set_self (by rw [hv.glen]; exact hx)]; omega
    · rw [rowG_set_other e]; exact hg i
  · have hst := (hown.stored x (.slice a l c')).1
    rw [Nat.zero_add]
    have hc := hst.cellAt i (by omega)
    by_cases e : x = i
    · subst e
      rw [rowG_set_self (by rw [hv.glen]; exact hx), hrl]
      refine ⟨a, c', ?_, ?_⟩
      · rw [hc, List.getElem?_set_self (by rw [hv.len]; exact hx)]
      · obtain ⟨q1, q2 | ⟨b, off, rfl, q3, q4, q5⟩⟩ := hr
        · exact ⟨q1, .inl q2⟩
        · exact ⟨q1, .inr ⟨b, off, rfl, Nat.zero_le _, by simpa [World.setCell] using q4, fun i hi => (World.cell?_of_block (Below.heap_setCell _ _ _ _ (show b ≠ p from ha b off rfl))).trans (q5 i hi)⟩⟩
    · rw [rowG_set_other e]
      obtain ⟨ai, ci, e1, e2⟩ := hv.row i hi'
      refine ⟨ai, ci, ?_, ?_⟩
      · rw [hc, List.getElem?_set_ne e, ← e1]
        simp [vg, List.getD, show i < vs.length by rw [hv.len]; exact hi']
      · refine ((e2.below hb (Nat.le_refl _)).set (p := ⟨p, x, none⟩) (.inr hp) _).mono (Nat.le_refl _) (by simp [World.setCell]; omega)

set_option maxRecDepth 100000 in
set_option maxHeartbeats 16000000 in
theorem wavemore_law (a : Option Addr) (l c : Nat) (xs : List Nat) (kn ka kb : Nat) (w : World) {hi : Nat} (hkn : kn ≤ 255) (hka : ka ≤ 255) (hkb : kb ≤ 255) (hx : RowY 0 hi w a l xs) (hhi : hi ≤ w.heap.size) (hb : ∀ i, i < l → xs.getD i 0 ≤ 255) :
    Calls Try.prog 8 #[.slice a l c, .int .u8 (kn : Int), .int .u8 (ka : Int), .int .u8 (kb : Int)] w fun e w' => e = .returned (.bool true) ∧ Below w.heap.size w w' := by
  have HMK := Lib.hid (make_any a l c xs kn w hkn hx hhi hb)
  obtain ⟨n, hn⟩ : ∃ n, kn % 16 = n := ⟨_, rfl⟩
  rw [hn] at HMK
  have hn16 : n < 16 := by omega
  obtain ⟨i0, hi0, hz0, hz1, hz2⟩ := info_parts Try.info3
  obtain ⟨j0, hj0, hy0, hy1, hy2⟩ := info_parts Try.gRowInfo
  clear hx hb hhi hn
  by_cases h0 : n = 0
  · subst h0
    go_enter Try.func8, Try.ntmps8
    go_wp2_with (first
      | (go_at_call 9; (with_reducible refine (HMK.out).mono ?_); rintro e w1 ⟨hb1, ag, cg, g, rfl, hgi, hgp⟩; have HB1 := Lib.hid hb1; clear hb1 hgi hgp HMK)
      | (go_at_call 19; (with_reducible refine (awake6_any w1).mono ?_); rintro e w2 ⟨rfl, hb2⟩; have HB2 := Lib.hid hb2; clear hb2))
    go_ret
    exact ⟨rfl, HB1.out.trans (HB2.out.mono HB1.out.size)⟩
  · obtain ⟨x, hxe⟩ : ∃ x, ka % n = x := ⟨_, rfl⟩
    obtain ⟨y, hye⟩ : ∃ y, kb % n = y := ⟨_, rfl⟩
    have hn0 : 0 < n := by omega
    have hxn : x < n := by rw [← hxe]; exact Nat.mod_lt _ hn0
    have hyn : y < n := by rw [← hye]; exact Nat.mod_lt _ hn0
    have ex1 : (ka : Int) % (n : Int) = (x : Int) := by rw [← hxe]; exact (Int.natCast_emod ka n).symm
    have ey1 : (kb : Int) % (n : Int) = (y : Int) := by rw [← hye]; exact (Int.natCast_emod kb n).symm
    have ex2 : (ka : Int).tmod (n : Int) = (x : Int) := by rw [Int.tmod_eq_emod_of_nonneg (by omega)]; exact ex1
    have ey2 : (kb : Int).tmod (n : Int) = (y : Int) := by rw [Int.tmod_eq_emod_of_nonneg (by omega)]; exact ey1
    have en0 : ((n : Int) == 0) = false := by simp; omega
    have wka : IntKind.i64.wrap (ka : Int) = (ka : Int) := IntWalk.i64_in _ (by omega)
    have wkb : IntKind.i64.wrap (kb : Int) = (kb : Int) := IntWalk.i64_in _ (by omega)
    have wx : IntKind.i64.wrap (x : Int) = (x : Int) := IntWalk.i64_in _ (by omega)
    have wy : IntKind.i64.wrap (y : Int) = (y : Int) := IntWalk.i64_in _ (by omega)
    clear hxe hye
    go_enter Try.func8, Try.ntmps8
    go_upto_region 4 with (go_at_call 9; (with_reducible refine (HMK.out).mono ?_); rintro e w1 ⟨hb1, ag, cg, g, rfl, hgi, hgp⟩; have HB1 := Lib.hid hb1; have HGI := Lib.hid hgi; have HGP := Lib.hid hgp; clear hb1 hgi hgp HMK)
    obtain ⟨gb, off, xa, xc, hag, hgb, hxr, hxrow⟩ := HGI.out.row hxn
    subst hag
    obtain ⟨vs, hvh, hvc⟩ := HGI.out.heads hn0
    have HVH := Lib.hid hvh
    have HVC := Lib.hid hvc
    have HGL : Hid (g.length = n) := HGI.out.1
    obtain ⟨o, ho⟩ : ∃ o, w1.heap.size = o := ⟨_, rfl⟩
    obtain ⟨r, hr⟩ : ∃ r, rowG g x = r := ⟨_, rfl⟩
    obtain ⟨m, hm⟩ : ∃ m, r.length = m := ⟨_, rfl⟩
    have hm40 : m ≤ 40 := by have := (HGP.out.2 x).1; rw [hr, hm] at this; exact this
    rw [hr, hm] at hxr hxrow
    have HR := Lib.hid hr
    have HMM := Lib.hid hm
    have HO := Lib.hid ho
    have HROW := Lib.hid hxrow
    have HXR := Lib.hid hxr
    have HNIL : Hid (xa = none → m = 0) := fun e => by
      rcases HROW.out.2 with h | ⟨_, _, h, _⟩
      · exact h
      · rw [e] at h; cases h
    have HLS : Hid ((intR r).length = m * 1) := by show _ = _; simp [hm]
    have HNEW : Hid (∀ W, Below w1.heap.size w1 W → ∀ ad, xa = some ad → ∀ (j : Nat) (u : Value), (intR r)[j]? = some u → W.cell? (ad.add j) = some u) := by
      intro W hW ad had j u hj
      rw [List.getElem?_map] at hj
      rcases HROW.out.2 with h | ⟨b9, o9, h, _, hb9, hc9⟩
      · have : r[j]? = none := List.getElem?_eq_none (by rw [HMM.out]; omega)
        rw [this] at hj
        cases hj
      · rw [had] at h
        obtain rfl := Option.some.inj h
        have hjl : j < r.length := by
          rcases Nat.lt_or_ge j r.length with q | q
          · exact q
          · rw [List.getElem?_eq_none q] at hj; cases hj
        rw [List.getElem?_eq_getElem hjl] at hj
        obtain rfl := Option.some.inj hj
        rw [Addr.add_lit, hW.cell (p := ⟨b9, o9 + j, none⟩) (by show b9 < _; omega), hc9 j (by rw [← HMM.out]; exact hjl), List.getD_eq_getElem?_getD, List.getElem?_eq_getElem hjl]
        rfl
    have HONE : Hid (∀ u ∈ intR r, u.oneCell' = true) := by
      intro u hu
      obtain ⟨z, _, rfl⟩ := List.mem_map.1 hu
      rfl
    have HCOPY : Hid (∀ W, Below w1.heap.size w1 W → ∀ (j : Nat) (u : Value), vs[j]? = some u → W.cell? ((⟨gb, off, none⟩ : Addr).add j) = some u) := fun W hW j u hj => by
      have hjl : j < n := by rw [← HVH.out.len]; exact (List.getElem?_eq_some_iff.1 hj).1
      rw [Addr.add_lit, hW.cell (p := ⟨gb, off + j, none⟩) hgb, HVC.out j hjl]
      rw [← hj]
      simp [vg, List.getD, show j < vs.length by rw [HVH.out.len]; exact hjl]
    have T2 : ∀ W, Sem.run Try.prog (Instr.indexAt 23 (.slice (some ⟨gb, off, none⟩) n cg) (.int .i64 (x : Int))) W = .ok (.pointer (some ⟨gb, off + x, none⟩)) W := fun W => by go_simp
    have hgb1 : gb < w1.heap.size := hgb
    clear hvh hvc hr hm hxrow ho
    go_upto_region 5 with (at_builtin; refine wpList_append_lies _ rfl _ _ 23 rfl w1.heap.size 26 j0 (.slice none 0 0) 1 24 Try.underlying23 hj0 hy0 hy1 hy2 rfl (by decide) _ 0 [] rfl (own_nought w1) ⟨gb, off, none⟩ n cg vs rfl (by rw [HVH.out.len, Nat.mul_one]) (HCOPY.out _ ((Below.refl _ _).alloc (Nat.le_refl _) _)) HVH.out.one hn0 (by unfold maxLen; omega) (by omega) (by simp) _ rfl ?_; intro p2 c2 w2 hown2 hgr2 hat2 hlt2)
    rw [Nat.zero_add, List.nil_append] at hown2
    have hp2 := ownsRow_lo hown2 p2 rfl
    have HBL2 : Hid (Below w1.heap.size w1 w2) := ((Below.refl _ w1).alloc (Nat.le_refl _) _).grown hgr2 (by simp) (fun j hj => by cases hj; exact Nat.le_refl _)
    have HOW2 := Lib.hid hown2
    clear hown2 hgr2 hat2 hlt2
    go_quiet (fail)
    go_upto_region 6 with fail
    generalize hw3 : World.drewN w2 _ = w3
    have HBL3 : Hid (Below w1.heap.size w1 w3) := by show Below _ _ _; rw [← hw3]; exact below_drewN HBL2.out _
    have HOW3 : Hid (w3.ownsRow w1.heap.size 26 1 (.slice (some ⟨p2, 0, none⟩) n c2) n vs) := by show World.ownsRow _ _ _ _ _ _ _; rw [← hw3]; exact HOW2.out
    obtain ⟨hp2a, hp2b⟩ := hp2
    have hp3 : p2 < w3.heap.size := by rw [← hw3]; exact hp2b
    have hxr3 := (HBL3.out.cell (p := ⟨gb, off + x, none⟩) hgb1).trans HXR.out
    have hs3 := HBL3.out.size
    have hgb3 : gb < w3.heap.size := by omega
    have hco3 : w3.cell? ⟨p2, x, none⟩ = some (vg vs x) := by
      rw [HOW3.out.cellAt x (by omega)]
      simp [vg, List.getD, show x < vs.length by rw [HVH.out.len]; exact hxn]
    have hfo3 : w3.frozen? ⟨p2, x, none⟩ = false := HOW3.out.frozenAt x
    obtain ⟨u3, hu3⟩ : ∃ u, vg vs x = u := ⟨_, rfl⟩
    rw [hu3] at hco3
    have T3 : ∀ W, Sem.run Try.prog (Instr.indexAt 23 (.slice (some ⟨p2, 0, none⟩) n c2) (.int .i64 (x : Int))) W = .ok (.pointer (some ⟨p2, x, none⟩)) W := fun W => by go_simp
    clear hw3 hp2b hu3 HOW2 HBL2 ex1 ey1 ex2 ey2 wka wkb
    have HQ1 : Hid (0 + m ≤ maxLen) := by show _ ≤ _; unfold maxLen; omega
    have HQ2 : Hid ((0 + m) * 8 ≤ 140737488355328) := by show _ ≤ _; omega
    have HLS3 := Lib.hid hs3
    clear hs3
    go_upto_region 7 with (first
      | (at_builtin; refine wpList_append_at rfl _ _ 26 rfl w3.heap.size 3 i0 (.int .i64 0) 1 8 Try.underlying26 hi0 hz0 hz1 hz2 rfl (by decide) w3.heap.size 0 0 [] rfl (own_noughtI w3) xa m xc (intR r) rfl HNIL.out HLS.out (HNEW.out _ (HBL3.out.alloc HLS3.out _)) HONE.out HQ1.out HQ2.out (by simp) ?_; intro g4 c4 w4 hown4 hgr4 hat4; rw [Nat.zero_add, List.nil_append] at hown4; have HB4 : Hid (Below w3.heap.size w3 w4) := ((Below.refl _ w3).alloc (Nat.le_refl _) _).grown hgr4 (by simp) (fun j hj => by cases hj; exact Nat.le_refl _); have HO4 := Lib.hid hown4; have hs4 := HB4.out.size; clear hown4 hgr4 hat4)
      | (at_builtin; refine wpList_append_lies _ rfl _ _ 26 rfl w3.heap.size 3 i0 (.int .i64 0) 1 8 Try.underlying26 hi0 hz0 hz1 hz2 rfl (by decide) _ m (intR r) rfl (HO4.out.alloc _) ⟨w4.heap.size, 0, none⟩ 1 1 [.int .i64 (y : Int)] rfl rfl (news_at (cs := [.int .i64 (y : Int)]) rfl) (by simp [Value.oneCell']) (by decide) (by unfold maxLen; omega) (by omega) (by simp; omega) _ rfl ?_; intro g5 c5 w5 hown5 hgr5 hat5 hlt5; have HB5 : Hid (Below w3.heap.size w3 w5) := (HB4.out.alloc hs4 _).grown hgr5 (by simp; omega) (fun j hj => (ownsRow_lo HO4.out j hj).1); have HO5 := Lib.hid hown5; have hs5 := HB5.out.size; have hco5 := (HB5.out.cell (p := ⟨p2, x, none⟩) hp3).trans hco3; have hfo5 := (HB5.out.frozen (p := ⟨p2, x, none⟩) hp3).trans hfo3; have hp5 : p2 < w5.heap.size := Nat.lt_of_lt_of_le hp3 hs5; clear hown5 hgr5 hat5 hlt5))
    have hrow5 : ∃ a' c', (Value.slice (some ⟨g5, 0, none⟩) (m + 1) c5) = .slice a' (r ++ [(y : Int)]).length c' ∧ Row 0 w5.heap.size w5 a' (r ++ [(y : Int)]).length (r ++ [(y : Int)]) := by
      refine own_row (base := w3.heap.size) (e := 3) ?_
      have e9 : (r ++ [(y : Int)]).length = m + 1 := by rw [List.length_append, HMM.out]; rfl
      rw [e9]
      simpa [intR] using HO5.out
    have HGI6 : Hid (GI (w5.setCell ⟨p2, x, none⟩ (.slice (some ⟨g5, 0, none⟩) (m + 1) c5)).heap.size (w5.setCell ⟨p2, x, none⟩ (.slice (some ⟨g5, 0, none⟩) (m + 1) c5)) (some ⟨p2, 0, none⟩) n (g.set x (r ++ [(y : Int)]))) := by
      obtain ⟨a', c', e, hr9⟩ := hrow5
      have e9 : (r ++ [(y : Int)]).length = m + 1 := by rw [List.length_append, HMM.out]; rfl
      rw [e9] at e hr9
      cases e
      have hg5 := (ownsRow_lo HO5.out g5 rfl).1
      exact gi_laid HVH.out (HBL3.out.trans (HB5.out.mono HLS3.out)) (ownsRow_below HOW3.out HB5.out) hp2a hr9 (fun b o h => by cases h; omega) hxn (by omega) (fun i => by have := (HGP.out.2 i).1; omega) (by omega)
    have HBL6 : Hid (Below w1.heap.size w1 (w5.setCell ⟨p2, x, none⟩ (.slice (some ⟨g5, 0, none⟩) (m + 1) c5))) := (HBL3.out.trans (HB5.out.mono HLS3.out)).setCell (p := ⟨p2, x, none⟩) hp2a _
    obtain ⟨w6, hw6⟩ : ∃ w6, w5.setCell ⟨p2, x, none⟩ (.slice (some ⟨g5, 0, none⟩) (m + 1) c5) = w6 := ⟨_, rfl⟩
    rw [hw6] at HGI6 HBL6 ⊢
    have HLS6 : Hid (w1.heap.size ≤ w6.heap.size) := HBL6.out.size
    clear hw6 hrow5 HO5 HO4 HB5 HB4 hco5 hfo5 hco3 hfo3 hs4 hs5 hp5 hxr3 hgb3 hp3 HOW3 T3
    go_upto_region 8 with (at_builtin; refine wpList_append_lies _ rfl _ _ 23 rfl w6.heap.size 26 j0 (.slice none 0 0) 1 24 Try.underlying23 hj0 hy0 hy1 hy2 rfl (by decide) _ 0 [] rfl (own_nought w6) ⟨gb, off, none⟩ n cg vs rfl (by rw [HVH.out.len, Nat.mul_one]) (HCOPY.out _ (HBL6.out.alloc HLS6.out _)) HVH.out.one hn0 (by unfold maxLen; omega) (by omega) (by simp) _ rfl ?_; intro p7 c7 w7 hown7 hgr7 hat7 hlt7)
    rw [Nat.zero_add, List.nil_append] at hown7
    have hp7 := ownsRow_lo hown7 p7 rfl
    obtain ⟨hp7a, hp7b⟩ := hp7
    have HB67 : Hid (Below w6.heap.size w6 w7) := ((Below.refl _ w6).alloc (Nat.le_refl _) _).grown hgr7 (by simp) (fun j hj => by cases hj; exact Nat.le_refl _)
    have HBL7 : Hid (Below w1.heap.size w1 w7) := HBL6.out.trans (HB67.out.mono HLS6.out)
    have HS17 : Hid (w1.heap.size ≤ w7.heap.size) := HBL7.out.size
    have hxr7 := (HBL7.out.cell (p := ⟨gb, off + x, none⟩) hgb1).trans HXR.out
    have hgb7 : gb < w7.heap.size := Nat.lt_of_lt_of_le hgb1 HS17.out
    have hco7 : w7.cell? ⟨p7, x, none⟩ = some (vg vs x) := by
      rw [hown7.cellAt x (by omega)]
      simp [vg, List.getD, show x < vs.length by rw [HVH.out.len]; exact hxn]
    have hfo7 : w7.frozen? ⟨p7, x, none⟩ = false := hown7.frozenAt x
    obtain ⟨u7, hu7⟩ : ∃ u, vg vs x = u := ⟨_, rfl⟩
    rw [hu7] at hco7
    have T7 : ∀ W, Sem.run Try.prog (Instr.indexAt 23 (.slice (some ⟨p7, 0, none⟩) n c7) (.int .i64 (x : Int))) W = .ok (.pointer (some ⟨p7, x, none⟩)) W := fun W => by go_simp
    have HOW7 := Lib.hid hown7
    have HN1 : Hid ((w7.alloc (.cells #[] 3)).ownsRow w7.heap.size 3 1 (.slice (some ⟨w7.heap.size, 0, none⟩) 0 0) 0 []) := own_noughtI w7
    have HN2 : Hid (((w7.alloc (.cells #[] 3)).alloc (.cells #[.int .i64 (-1), .int .i64 (n : Int)] 3)).ownsRow w7.heap.size 3 1 (.slice (some ⟨w7.heap.size, 0, none⟩) 0 0) 0 []) := (own_noughtI w7).alloc _
    have HN3 : Hid (((w7.alloc (.cells #[.int .i64 (-1), .int .i64 (n : Int)] 3)).alloc (.cells #[] 3)).ownsRow w7.heap.size 3 1 (.slice (some ⟨w7.heap.size + 1, 0, none⟩) 0 0) 0 []) := by
      have h9 := own_noughtI (w7.alloc (.cells #[.int .i64 (-1), .int .i64 (n : Int)] 3))
      rw [World.size_alloc] at h9
      exact own_down h9 (Nat.le_succ _)
    have HN1d : Hid ((w7.alloc (.cells #[] 3)).drew.ownsRow w7.heap.size 3 1 (.slice (some ⟨w7.heap.size, 0, none⟩) 0 0) 0 []) := HN1.out
    have HN2d : Hid (((w7.alloc (.cells #[] 3)).alloc (.cells #[.int .i64 (-1), .int .i64 (n : Int)] 3)).drew.ownsRow w7.heap.size 3 1 (.slice (some ⟨w7.heap.size, 0, none⟩) 0 0) 0 []) := HN2.out
    have HN3d : Hid (((w7.alloc (.cells #[.int .i64 (-1), .int .i64 (n : Int)] 3)).alloc (.cells #[] 3)).drew.ownsRow w7.heap.size 3 1 (.slice (some ⟨w7.heap.size + 1, 0, none⟩) 0 0) 0 []) := HN3.out
    have HX67a : Hid (Box ((w7.alloc (.cells #[] 3)).alloc (.cells #[.int .i64 (-1), .int .i64 (n : Int)] 3)) (w7.heap.size + 1) 3 [.int .i64 (-1), .int .i64 (n : Int)]) := box_at1 w7 _ _ [.int .i64 (-1), .int .i64 (n : Int)]
    have HX67b : Hid (Box ((w7.alloc (.cells #[.int .i64 (-1), .int .i64 (n : Int)] 3)).alloc (.cells #[] 3)) w7.heap.size 3 [.int .i64 (-1), .int .i64 (n : Int)]) := (Box.new w7 _ [.int .i64 (-1), .int .i64 (n : Int)]).alloc _
    have HX67ad : Hid (Box ((w7.alloc (.cells #[] 3)).alloc (.cells #[.int .i64 (-1), .int .i64 (n : Int)] 3)).drew (w7.heap.size + 1) 3 [.int .i64 (-1), .int .i64 (n : Int)]) := HX67a.out
    have HX67bd : Hid (Box ((w7.alloc (.cells #[.int .i64 (-1), .int .i64 (n : Int)] 3)).alloc (.cells #[] 3)).drew w7.heap.size 3 [.int .i64 (-1), .int .i64 (n : Int)]) := HX67b.out
    have HONE2 : Hid (∀ u ∈ [Value.int .i64 (-1), Value.int .i64 (n : Int)], u.oneCell' = true) := by
      intro u hu; simp at hu; rcases hu with rfl | rfl <;> rfl
    have HQ3 : Hid (m + m ≤ maxLen) := by show _ ≤ _; unfold maxLen; omega
    have HQ4 : Hid ((m + m) * 8 ≤ 140737488355328) := by show _ ≤ _; omega
    have HQ5 : Hid (m + m + 2 ≤ maxLen) := by show _ ≤ _; unfold maxLen; omega
    have HQ6 : Hid ((m + m + 2) * 8 ≤ 140737488355328) := by show _ ≤ _; omega
    clear hown7 hgr7 hat7 hlt7 hu7
    go_cut [] (fun wx => Hid (GI wx.heap.size wx (some ⟨p7, 0, none⟩) n (g.set x (r ++ r ++ [-1, (n : Int)]))) ∧ Hid (Below w6.heap.size w6 wx))
    case first =>
      go_region_law (first
        | (refine step_append_at rfl _ _ 26 rfl w7.heap.size 3 i0 (.int .i64 0) 1 8 Try.underlying26 hi0 hz0 hz1 hz2 rfl (by decide) w7.heap.size 0 0 [] rfl (by first | with_reducible exact HN1.out | with_reducible exact HN1d.out) xa m xc (intR r) rfl HNIL.out HLS.out (HNEW.out _ (HBL7.out.trans (Below.mono (by repeat (first | with_reducible exact Below.refl _ _ | with_reducible refine Below.drew ?_ | with_reducible refine below_alloc ?_ (Nat.le_refl _) _)) HS17.out))) HONE.out HQ1.out HQ2.out (by simp <;> omega) ?_; intro g9 c9 w9 hown9 hgr9 hat9; rw [Nat.zero_add, List.nil_append] at hown9; have HBa := Lib.hid (show Below w7.heap.size w7 w9 from Below.grown (by repeat (first | with_reducible exact Below.refl _ _ | with_reducible refine Below.drew ?_ | with_reducible refine below_alloc ?_ (Nat.le_refl _) _)) hgr9 (by simp <;> omega) (fun j hj => by cases hj; first | exact Nat.le_refl _ | exact Nat.le_succ _)); have r9c := (HBa.out.cell (p := ⟨gb, off + x, none⟩) hgb7).trans hxr7; have hgb9 : gb < w9.heap.size := Nat.lt_of_lt_of_le hgb7 HBa.out.size; have r9p := (HBa.out.cell (p := ⟨p7, x, none⟩) hp7b).trans hco7)
        | (refine step_append_at rfl _ _ 26 rfl w7.heap.size 3 i0 (.int .i64 0) 1 8 Try.underlying26 hi0 hz0 hz1 hz2 rfl (by decide) w7.heap.size 0 0 [] rfl (by first | with_reducible exact HN2.out | with_reducible exact HN2d.out) xa m xc (intR r) rfl HNIL.out HLS.out (HNEW.out _ (HBL7.out.trans (Below.mono (by repeat (first | with_reducible exact Below.refl _ _ | with_reducible refine Below.drew ?_ | with_reducible refine below_alloc ?_ (Nat.le_refl _) _)) HS17.out))) HONE.out HQ1.out HQ2.out (by simp <;> omega) ?_; intro g9 c9 w9 hown9 hgr9 hat9; rw [Nat.zero_add, List.nil_append] at hown9; have HBa := Lib.hid (show Below w7.heap.size w7 w9 from Below.grown (by repeat (first | with_reducible exact Below.refl _ _ | with_reducible refine Below.drew ?_ | with_reducible refine below_alloc ?_ (Nat.le_refl _) _)) hgr9 (by simp <;> omega) (fun j hj => by cases hj; first | exact Nat.le_refl _ | exact Nat.le_succ _)); have r9c := (HBa.out.cell (p := ⟨gb, off + x, none⟩) hgb7).trans hxr7; have hgb9 : gb < w9.heap.size := Nat.lt_of_lt_of_le hgb7 HBa.out.size; have r9p := (HBa.out.cell (p := ⟨p7, x, none⟩) hp7b).trans hco7; have H67 : Hid (Box w9 (w7.heap.size + 1) 3 [.int .i64 (-1), .int .i64 (n : Int)]) := (by show Box _ _ _ _; first | exact HX67a.out.grown hgr9 (by simp) | exact HX67ad.out.grown hgr9 (by simp)); have H67ne : Hid (g9 ≠ w7.heap.size + 1) := (by show g9 ≠ _; rcases hat9 with e | e <;> rw [e] <;> simp [World.drew] <;> (try omega)))
        | (refine step_append_at rfl _ _ 26 rfl w7.heap.size 3 i0 (.int .i64 0) 1 8 Try.underlying26 hi0 hz0 hz1 hz2 rfl (by decide) (w7.heap.size + 1) 0 0 [] rfl (by first | with_reducible exact HN3.out | with_reducible exact HN3d.out) xa m xc (intR r) rfl HNIL.out HLS.out (HNEW.out _ (HBL7.out.trans (Below.mono (by repeat (first | with_reducible exact Below.refl _ _ | with_reducible refine Below.drew ?_ | with_reducible refine below_alloc ?_ (Nat.le_refl _) _)) HS17.out))) HONE.out HQ1.out HQ2.out (by simp <;> omega) ?_; intro g9 c9 w9 hown9 hgr9 hat9; rw [Nat.zero_add, List.nil_append] at hown9; have HBa := Lib.hid (show Below w7.heap.size w7 w9 from Below.grown (by repeat (first | with_reducible exact Below.refl _ _ | with_reducible refine Below.drew ?_ | with_reducible refine below_alloc ?_ (Nat.le_refl _) _)) hgr9 (by simp <;> omega) (fun j hj => by cases hj; first | exact Nat.le_refl _ | exact Nat.le_succ _)); have r9c := (HBa.out.cell (p := ⟨gb, off + x, none⟩) hgb7).trans hxr7; have hgb9 : gb < w9.heap.size := Nat.lt_of_lt_of_le hgb7 HBa.out.size; have r9p := (HBa.out.cell (p := ⟨p7, x, none⟩) hp7b).trans hco7; have H67 : Hid (Box w9 w7.heap.size 3 [.int .i64 (-1), .int .i64 (n : Int)]) := (by show Box _ _ _ _; first | exact HX67b.out.grown hgr9 (by simp) | exact HX67bd.out.grown hgr9 (by simp)); have H67ne : Hid (g9 ≠ w7.heap.size) := (by show g9 ≠ _; rcases hat9 with e | e <;> rw [e] <;> simp [World.drew] <;> (try omega)))
        | (refine step_append_at rfl _ _ 26 rfl w7.heap.size 3 i0 (.int .i64 0) 1 8 Try.underlying26 hi0 hz0 hz1 hz2 rfl (by decide) g9 m c9 (intR r) rfl (hown9) xa m xc (intR r) rfl HNIL.out HLS.out (HNEW.out _ (HBL7.out.trans (Below.mono (HBa.out) HS17.out))) HONE.out HQ3.out HQ4.out (by have := HBa.out.size; simp <;> omega) ?_; intro g10 c10 w10 hown10 hgr10 hat10; have HBb := Lib.hid (show Below w7.heap.size w7 w10 from Below.grown (HBa.out) hgr10 (by have := HBa.out.size; simp <;> omega) (fun j hj => by cases hj; exact (ownsRow_lo hown9 g9 rfl).1)); have r10p := (HBb.out.cell (p := ⟨p7, x, none⟩) hp7b).trans hco7; (try (have H67b := Lib.hid (H67.out.grown hgr10 (fun e => H67ne.out (Option.some.inj e).symm)))))
        | (refine step_append_at rfl _ _ 26 rfl w7.heap.size 3 i0 (.int .i64 0) 1 8 Try.underlying26 hi0 hz0 hz1 hz2 rfl (by decide) g9 m c9 (intR r) rfl (hown9.alloc _) xa m xc (intR r) rfl HNIL.out HLS.out (HNEW.out _ (HBL7.out.trans (Below.mono (HBa.out.alloc HBa.out.size _) HS17.out))) HONE.out HQ3.out HQ4.out (by have := HBa.out.size; simp <;> omega) ?_; intro g10 c10 w10 hown10 hgr10 hat10; have HBb := Lib.hid (show Below w7.heap.size w7 w10 from Below.grown (HBa.out.alloc HBa.out.size _) hgr10 (by have := HBa.out.size; simp <;> omega) (fun j hj => by cases hj; exact (ownsRow_lo hown9 g9 rfl).1)); have r10p := (HBb.out.cell (p := ⟨p7, x, none⟩) hp7b).trans hco7; have H67b : Hid (Box w10 w9.heap.size 3 [.int .i64 (-1), .int .i64 (n : Int)]) := (Box.new w9 _ [.int .i64 (-1), .int .i64 (n : Int)]).grown hgr10 (fun e => by have := (ownsRow_lo hown9 g9 rfl).2; have := Option.some.inj e; omega))
        | (refine step_append_lies _ rfl _ _ _ rfl w7.heap.size 3 i0 (.int .i64 0) 1 8 Try.underlying26 hi0 hz0 hz1 hz2 rfl (by decide) _ (m + m) (intR r ++ intR r) rfl (hown10) _ 2 2 [.int .i64 (-1), .int .i64 (n : Int)] rfl rfl (fun j u hj => by rw [Addr.add_lit, Nat.zero_add, H67b.out.cell j]; exact hj) HONE2.out (by decide) HQ5.out HQ6.out (by have := HBb.out.size; simp <;> omega) _ rfl ?_; intro g11 c11 w11 hown11 hgr11 hat11 hlt11; have HBc := Lib.hid (show Below w7.heap.size w7 w11 from Below.grown (HBb.out) hgr11 (by have := HBb.out.size; simp <;> omega) (fun j hj => (ownsRow_lo hown10 j hj).1)); have r11c := (HBc.out.cell (p := ⟨p7, x, none⟩) hp7b).trans hco7; have r11f := (HBc.out.frozen (p := ⟨p7, x, none⟩) hp7b).trans hfo7; have hp11 : p7 < w11.heap.size := Nat.lt_of_lt_of_le hp7b HBc.out.size)
        | (refine step_append_lies _ rfl _ _ _ rfl w7.heap.size 3 i0 (.int .i64 0) 1 8 Try.underlying26 hi0 hz0 hz1 hz2 rfl (by decide) _ (m + m) (intR r ++ intR r) rfl (hown10.alloc _) _ 2 2 [.int .i64 (-1), .int .i64 (n : Int)] rfl rfl (news_at (cs := [.int .i64 (-1), .int .i64 (n : Int)]) rfl) HONE2.out (by decide) HQ5.out HQ6.out (by have := HBb.out.size; simp <;> omega) _ rfl ?_; intro g11 c11 w11 hown11 hgr11 hat11 hlt11; have HBc := Lib.hid (show Below w7.heap.size w7 w11 from Below.grown (HBb.out.alloc HBb.out.size _) hgr11 (by have := HBb.out.size; simp <;> omega) (fun j hj => (ownsRow_lo hown10 j hj).1)); have r11c := (HBc.out.cell (p := ⟨p7, x, none⟩) hp7b).trans hco7; have r11f := (HBc.out.frozen (p := ⟨p7, x, none⟩) hp7b).trans hfo7; have hp11 : p7 < w11.heap.size := Nat.lt_of_lt_of_le hp7b HBc.out.size))
      all_goals (
        have hrow11 : ∃ a' c', (Value.slice (some ⟨g11, 0, none⟩) (m + m + 2) c11) = .slice a' (r ++ r ++ [-1, (n : Int)]).length c' ∧ Row 0 w11.heap.size w11 a' (r ++ r ++ [-1, (n : Int)]).length (r ++ r ++ [-1, (n : Int)]) := by
          refine own_row (base := w7.heap.size) (e := 3) ?_
          have e9 : (r ++ r ++ [-1, (n : Int)]).length = m + m + 2 := by rw [List.length_append, List.length_append, HMM.out]; rfl
          rw [e9]
          simpa [intR] using hown11
        have HG9 : Hid (GI (w11.setCell ⟨p7, x, none⟩ (.slice (some ⟨g11, 0, none⟩) (m + m + 2) c11)).heap.size (w11.setCell ⟨p7, x, none⟩ (.slice (some ⟨g11, 0, none⟩) (m + m + 2) c11)) (some ⟨p7, 0, none⟩) n (g.set x (r ++ r ++ [-1, (n : Int)]))) := by
          obtain ⟨a', c', e, hr9⟩ := hrow11
          have e9 : (r ++ r ++ [-1, (n : Int)]).length = m + m + 2 := by rw [List.length_append, List.length_append, HMM.out]; rfl
          rw [e9] at e hr9
          cases e
          have hg11 := (ownsRow_lo hown11 g11 rfl).1
          exact gi_laid HVH.out (HBL7.out.trans (HBc.out.mono HS17.out)) (ownsRow_below HOW7.out HBc.out) (Nat.le_trans HLS6.out hp7a) hr9 (fun b o h => by cases h; omega) hxn (by omega) (fun i => by have := (HGP.out.2 i).1; omega) (by omega)
        have HB9 : Hid (Below w6.heap.size w6 (w11.setCell ⟨p7, x, none⟩ (.slice (some ⟨g11, 0, none⟩) (m + m + 2) c11))) := (HB67.out.trans (HBc.out.mono HB67.out.size)).setCell (p := ⟨p7, x, none⟩) hp7a _
        clear hown9 hown10 hown11 hgr9 hgr10 hgr11 hrow11
        go_wp2_with fail
        go_meet
        exact ⟨HG9, HB9⟩)
    case rest =>
      obtain ⟨HGT, HBC⟩ := hcut
      obtain ⟨H, hH⟩ : ∃ H, g.set x (r ++ [(y : Int)]) = H := ⟨_, rfl⟩
      obtain ⟨T, hT⟩ : ∃ T, g.set x (r ++ r ++ [-1, (n : Int)]) = T := ⟨_, rfl⟩
      have hxg : x < g.length := by rw [HGL.out]; exact hxn
      have hlH : g.length = H.length := by rw [← hH, List.length_set]
      have heH : ∀ a b, ed g a b → ed H a b := fun a b h => by
        have := ed_more hxg [(y : Int)] a b h
        rw [HR.out, hH] at this
        exact this
      have hlT : g.length = T.length := by rw [← hT, List.length_set]
      have heT : ∀ a b, ed g a b ↔ ed T a b := fun a b => by
        have := ed_twice hxg a b
        rw [HR.out, HGL.out, hT] at this
        exact this
      obtain ⟨hTL, hTm⟩ := same_lv hlT heT
      have hHm := more_len hlH heH
      have HHV : Hid ((grpL H).length = (grpL g).length → ∀ i, i < (grpL g).length → lvF g i ≤ lvF H i) := fun h i hi => more_lv hlH heH h hi
      rw [hH] at HGI6
      rw [hT] at HGT
      have hwc : Below w1.heap.size w1 wc := HBL6.out.trans (HBC.out.mono HLS6.out)
      have HWC := Lib.hid hwc
      have HGIg : Hid (GI wc.heap.size wc (some ⟨gb, off, none⟩) n g) := (HGI.out.below hwc (Nat.le_refl _)).mono hwc.size
      have HGIh : Hid (GI wc.heap.size wc (some ⟨p2, 0, none⟩) n H) := (HGI6.out.below HBC.out (Nat.le_refl _)).mono HBC.out.size
      obtain ⟨LG, hLG⟩ : ∃ LG, lvL g = LG := ⟨_, rfl⟩
      obtain ⟨LH, hLH⟩ : ∃ LH, lvL H = LH := ⟨_, rfl⟩
      obtain ⟨m1, hm1⟩ : ∃ m1, (grpL g).length = m1 := ⟨_, rfl⟩
      obtain ⟨m2, hm2⟩ : ∃ m2, (grpL H).length = m2 := ⟨_, rfl⟩
      have HLNg : Hid (LG.length = m1) := by show _ = _; rw [← hLG, lvL_len]; exact hm1
      have HLNh : Hid (LH.length = m2) := by show _ = _; rw [← hLH, lvL_len]; exact hm2
      have hm16 : m1 ≤ 16 := by
        have h9 : (grpL g).length ≤ g.length := grpI_len
        have := HGL.out
        omega
      have HVV : Hid (m2 = m1 → ∀ i, i < m1 → el LG i ≤ el LH i) := by
        show m2 = m1 → _
        rw [← hm1, ← hm2, ← hLG, ← hLH]
        intro h i hi
        rw [lvL_el hi, lvL_el (by omega)]
        exact HHV.out h i hi
      have HLg : Hid (∀ W, Below wc.heap.size wc W → Calls Try.prog 15 #[.slice (some ⟨gb, off, none⟩) n cg] W fun e w' => Below W.heap.size W w' ∧ ∃ q, e = .returned (.slice (some ⟨q, 0, none⟩) m1 m1) ∧ W.heap.size ≤ q ∧ Box w' q 3 (intsOf LG)) := fun W h => by
        have := levels_any _ n cg g W (HGIg.out.below h (Nat.le_refl _)) h.size (by omega)
        rwa [hLG, hm1] at this
      have HLh : Hid (∀ W, Below wc.heap.size wc W → Calls Try.prog 15 #[.slice (some ⟨p2, 0, none⟩) n c2] W fun e w' => Below W.heap.size W w' ∧ ∃ q, e = .returned (.slice (some ⟨q, 0, none⟩) m2 m2) ∧ W.heap.size ≤ q ∧ Box w' q 3 (intsOf LH)) := fun W h => by
        have := levels_any _ n c2 H W (HGIh.out.below h (Nat.le_refl _)) h.size (by omega)
        rwa [hLH, hm2] at this
      have HLt : Hid (∀ W, Below wc.heap.size wc W → Calls Try.prog 15 #[.slice (some ⟨p7, 0, none⟩) n c7] W fun e w' => Below W.heap.size W w' ∧ ∃ q, e = .returned (.slice (some ⟨q, 0, none⟩) m1 m1) ∧ W.heap.size ≤ q ∧ Box w' q 3 (intsOf LG)) := fun W h => by
        have := levels_any _ n c7 T W (HGT.out.below h (Nat.le_refl _)) h.size (by omega)
        rwa [hTL, hLG, hTm, hm1] at this
      rw [hm1, hm2] at hHm
      clear hH hT hxg hlH heH hlT heT hTL hTm hwc hLG hLH hm1 hm2 HHV HBC HGT HGI6 HNEW HLS HNIL HONE HQ1 HQ2 HQ3 HQ4 HQ5 HQ6 HN1 HN2 HN3 HN1d HN2d HN3d HX67a HX67b HX67ad HX67bd HCOPY HONE2 hxr7 hco7 hfo7 T7 T2
      by_cases hmm : m1 = m2
      · have em1 : ((m1 : Int) != (m2 : Int)) = false := by simp; omega
        subst hmm
        go_wp2_with (first
          | (go_at_call 15; (with_reducible refine (HLg.out _ (Below.refl _ _)).mono ?_); rintro e wa ⟨hba, qa, rfl, _, hxa⟩; have HBA := Lib.hid hba; have HXA := Lib.hid hxa; clear hba hxa)
          | (go_at_call 15; (with_reducible refine (HLh.out _ HBA.out).mono ?_); rintro e wb ⟨hbb, qb, rfl, _, hxb⟩; have HBB := Lib.hid (HBA.out.trans (hbb.mono HBA.out.size)); have HXB := Lib.hid hxb; have HXA2 := Lib.hid (HXA.out.below hbb); clear hbb hxb)
          | (go_at_call 15; (with_reducible refine (HLt.out _ HBB.out).mono ?_); rintro e wt ⟨hbt, qt, rfl, _, hxt⟩; have HBT := Lib.hid (HBB.out.trans (hbt.mono HBB.out.size)); have HXA3 := Lib.hid (HXA2.out.below hbt); have HXB3 := Lib.hid (HXB.out.below hbt); have HIN := Lib.hid (ints_any (some ⟨qt, 0, none⟩) (some ⟨qa, 0, none⟩) m1 m1 m1 m1 _ _ wt (box_row hxt HLNg.out) (box_row HXA3.out HLNg.out) (by omega)); clear hbt hxt)
          | (go_at_call 13; (with_reducible refine (HIN.out).mono ?_); simp only [decide_true]; rintro e wi ⟨rfl, k5, rfl⟩; have HB5 := Lib.hid (below_drewN HBT.out k5); have HXA5 : Hid (Box (wt.drewN k5) qa 3 (intsOf LG)) := HXA3.out.below (below_drewN (Below.refl _ _) k5); have HXB5 : Hid (Box (wt.drewN k5) qb 3 (intsOf LH)) := HXB3.out.below (below_drewN (Below.refl _ _) k5); clear HIN))
        go_loopw [16] (fun iv wx => ∃ i q : Nat, i ≤ m1 ∧ iv = .int .i64 (i : Int) ∧ wt.drewN q = wx) (fun iv _ => m1 - (intOf iv).toNat)
        case atStart => exact ⟨0, k5, Nat.zero_le _, rfl, rfl⟩
        case round =>
          obtain ⟨i, q, hi1, rfl, hwx⟩ := hrel
          subst hwx
          by_cases hlt : i < m1
          · have ca := box_el HXA3.out (i := i) (by rw [HLNg.out]; exact hlt)
            have cb := box_el HXB3.out (i := i) (by rw [HLNh.out]; exact hlt)
            have hle := HVV.out (by first | rfl | trivial) i hlt
            obtain ⟨va, hva⟩ : ∃ va, el LG i = va := ⟨_, rfl⟩
            obtain ⟨vb, hvb⟩ : ∃ vb, el LH i = vb := ⟨_, rfl⟩
            rw [hva] at ca hle
            rw [hvb] at cb hle
            have hqa := HXA3.out.lt
            have hqb := HXB3.out.lt
            have e1 : decide ((vb : Int) < (va : Int)) = false := decide_eq_false (by omega)
            have e1' : decide (vb < va) = false := decide_eq_false (by omega)
            clear hva hvb
            go_wp2_with fail
            go_quiet (fail)
            go_wp2_with fail
            go_roundw
            case rel => exact ⟨i + 1, _, by omega, by go_num, by first | rfl | trivial⟩
            case measure => simp [intOf]; omega
          · have hge : ¬ ((i : Int) < (m1 : Int)) := by omega
            go_wp2_with (go_at_call 19; (with_reducible refine (awake6_any _).mono ?_); rintro e w9 ⟨rfl, hb9⟩; have HB9 := Lib.hid hb9; clear hb9)
            go_ret
            have h9 : Below wc.heap.size wc (wt.drewN q) := below_drewN HBT.out q
            have h10 := HWC.out.trans ((h9.trans (HB9.out.mono h9.size)).mono HWC.out.size)
            exact ⟨rfl, HB1.out.trans (h10.mono HB1.out.size)⟩
      · have em1 : ((m1 : Int) != (m2 : Int)) = true := by simp; omega
        have em2 : decide ((m2 : Int) < (m1 : Int)) = true := decide_eq_true (by omega)
        have em2' : decide (m2 < m1) = true := decide_eq_true (by omega)
        go_wp2_with (first
          | (go_at_call 15; (with_reducible refine (HLg.out _ (Below.refl _ _)).mono ?_); rintro e wa ⟨hba, qa, rfl, _, hxa⟩; have HBA := Lib.hid hba; have HXA := Lib.hid hxa; clear hba hxa)
          | (go_at_call 15; (with_reducible refine (HLh.out _ HBA.out).mono ?_); rintro e wb ⟨hbb, qb, rfl, _, hxb⟩; have HBB := Lib.hid (HBA.out.trans (hbb.mono HBA.out.size)); have HXA2 := Lib.hid (HXA.out.below hbb); clear hbb hxb)
          | (go_at_call 15; (with_reducible refine (HLt.out _ HBB.out).mono ?_); rintro e wt ⟨hbt, qt, rfl, _, hxt⟩; have HBT := Lib.hid (HBB.out.trans (hbt.mono HBB.out.size)); have HXA3 := Lib.hid (HXA2.out.below hbt); have HIN := Lib.hid (ints_any (some ⟨qt, 0, none⟩) (some ⟨qa, 0, none⟩) m1 m1 m1 m1 _ _ wt (box_row hxt HLNg.out) (box_row HXA3.out HLNg.out) (by omega)); clear hbt hxt)
          | (go_at_call 13; (with_reducible refine (HIN.out).mono ?_); simp only [decide_true]; rintro e wi ⟨rfl, k5, rfl⟩; have HB5 := Lib.hid (below_drewN HBT.out k5); clear HIN)
          | (go_at_call 19; (with_reducible refine (awake6_any _).mono ?_); rintro e w9 ⟨rfl, hb9⟩; have HB9 := Lib.hid (HB5.out.trans (hb9.mono HB5.out.size)); clear hb9))
        go_ret
        have h10 := HWC.out.trans (HB9.out.mono HWC.out.size)
        exact ⟨rfl, HB1.out.trans (h10.mono HB1.out.size)⟩

end Go.Proofs.Ytdbjmonboecfgaa
