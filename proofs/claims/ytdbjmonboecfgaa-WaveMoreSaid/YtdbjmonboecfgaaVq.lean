/- The law WaveChain. -/
import Derived.Test.YtdbjmonboecfgaaVy
import Derived.Test.YtdbjmonboecfgaaGmk
import Derived.BigQuiet
namespace Go.Proofs.Ytdbjmonboecfgaa
open Go.RowKit Go.Maps
set_option linter.unusedVariables false
set_option linter.unusedSimpArgs false

theorem own_new (w : World) (r : List Int) (hr : r.length ≤ 1000000) : (w.alloc (.cells (intR r).toArray 3)).ownsRow w.heap.size 3 1 (.slice (some ⟨w.heap.size, 0, none⟩) r.length r.length) r.length (intR r) :=
  ⟨by simp, .inr ⟨w.heap.size, r.length, _, rfl, Nat.le_refl _, alloc_at w _, Nat.le_refl _, by unfold maxLen; omega, by simp, by rw [Nat.mul_one]; exact List.take_of_length_le (by simp)⟩⟩
theorem own_down {w : World} {base base' e size n : Nat} {v : Value} {xs : List Value} (h : w.ownsRow base e size v n xs) (hb : base' ≤ base) : w.ownsRow base' e size v n xs := by
  obtain ⟨h1, h2 | ⟨g, cap, cur, h2, h3, h4⟩⟩ := h
  · exact ⟨h1, .inl h2⟩
  · exact ⟨h1, .inr ⟨g, cap, cur, h2, by omega, h4⟩⟩
/-- A new row is laid in its place. -/
theorem grd_lay {w : World} {o p i k c : Nat} (r : List Int) (hr : r.length ≤ 1000000) {vs : List Value} {rows : Gr} (hG : Grd w o (.slice (some ⟨p, 0, none⟩) k c) vs rows) (hl : rows.length = k) (hi : i < k) :
    Grd ((w.setCell ⟨p, i, none⟩ (.slice (some ⟨w.heap.size, 0, none⟩) r.length r.length)).alloc (.cells (intR r).toArray 3)) o (.slice (some ⟨p, 0, none⟩) k c) (vs.set i (.slice (some ⟨w.heap.size, 0, none⟩) r.length r.length)) (rows.set i r) := by
  have hol := ownsRow_lo hG.own p rfl
  have h9 := hG.put (W := w) (w9 := w.alloc (.cells (intR r).toArray 3)) (i := i) (o := p) (n := k) (cap := c) (g := w.heap.size) (c := r.length) (r := r) (by rw [hl]; exact hi) rfl (Below.refl _ _) (World.grownBy_alloc w _ _) (own_down (own_new w r hr) (by omega)) (.inr rfl)
  rw [World.setCell_alloc_past _ _ _ _ hol.2] at h9
  exact h9
/-- The row so far. -/
structure CH (k t i : Nat) (g : Gr) : Prop where
  len : g.length = t
  row : ∀ j, 0 < j → j < k → j < i → rowG g j = [((j : Int) - 1), (j : Int)]
  rest : ∀ j, (j = 0 ∨ k ≤ j ∨ i ≤ j) → rowG g j = []
def chF (k j : Nat) : Nat := if j < k then j else 0
def chL (k i : Nat) : List Nat := (List.range i).map (chF k)
section
variable {k t i : Nat} {g : Gr}
theorem CH.zero (k t : Nat) : CH k t 0 (List.replicate t []) :=
  ⟨by simp, fun j _ _ h => by omega, fun j _ => by unfold rowG; rw [List.getD_eq_getElem?_getD, List.getElem?_replicate]; split <;> rfl⟩
theorem CH.lay (h : CH k t i g) (hi : i < t) (h0 : 0 < i) (hk : i < k) : CH k t (i + 1) (g.set i [((i : Int) - 1), (i : Int)]) := by
  refine ⟨by simp [h.len], fun j h1 h2 h3 => ?_, fun j hj => ?_⟩
  · by_cases e : i = j
    · subst e; exact rowG_set_self (by rw [h.len]; exact hi)
    · rw [rowG_set_other e]; exact h.row j h1 h2 (by omega)
  · rw [rowG_set_other (by omega)]; exact h.rest j (by omega)
theorem CH.skip (h : CH k t i g) (h0 : i = 0 ∨ k ≤ i) : CH k t (i + 1) g :=
  ⟨h.len, fun j h1 h2 h3 => h.row j h1 h2 (by omega), fun j hj => h.rest j (by omega)⟩
theorem CH.ed (h : CH k t t g) {x y : Nat} (he : ed g x y) : 0 < x ∧ x < k ∧ x < t ∧ (y + 1 = x ∨ y = x) := by
  obtain ⟨h1, h2⟩ := he
  by_cases q : x = 0 ∨ k ≤ x ∨ t ≤ x
  · rw [h.rest x q] at h1; simp at h1
  · rw [h.row x (by omega) (by omega) (by omega)] at h1
    simp only [List.mem_cons, List.not_mem_nil, or_false] at h1
    omega
theorem CH.downs (h : CH k t t g) : Downs g := fun x y _ he => by have := h.ed he; omega
theorem CH.lv (h : CH k t t g) (hkt : k ≤ t) : lvL g = chL k t := by
  have := downs_lv h.downs (f := chF k) (fun i j hn hi he => by
    have := h.ed he
    unfold chF
    rw [if_pos (by omega), if_pos (by omega)]; omega) (fun i hi => by
    rw [h.len] at hi
    by_cases q : i = 0 ∨ k ≤ i
    · left; unfold chF; split <;> omega
    · right
      refine ⟨i - 1, by omega, ⟨?_, by rw [h.len]; omega⟩, ?_⟩
      · rw [h.row i (by omega) (by omega) hi]
        simp only [List.mem_cons, List.not_mem_nil, or_false]
        left; omega
      · unfold chF; rw [if_pos (by omega), if_pos (by omega)]; omega)
  rw [this, h.len]; rfl
theorem chL_len : (chL k t).length = t := by unfold chL; simp
theorem chL_el {q : Nat} (h : q < t) : el (chL k t) q = chF k q := el_rangemap h
theorem chL_top (hk : 0 < k) (hkt : k ≤ t) : topL (chL k t) = k := by
  apply Nat.le_antisymm
  · have := topL_le (l := chL k t) (b := k - 1) fun v hv => by
      unfold chL at hv
      obtain ⟨i, _, rfl⟩ := List.mem_map.1 hv
      unfold chF; split <;> omega
    omega
  · have := el_topL (l := chL k t) (q := k - 1) (by rw [chL_len]; omega)
    rw [chL_el (by omega)] at this
    unfold chF at this
    rw [if_pos (by omega)] at this
    omega
theorem chL_nought (hk : 0 < k) : ∀ p, p ≤ t → (atLev (chL k t) 0 p).length = if p = 0 then 0 else if p ≤ k then 1 else 1 + (p - k)
  | 0, _ => by simp [atLev, memI]
  | p + 1, h => by
    rw [atLev_succ, List.length_append, chL_nought hk p (by omega), chL_el (by omega)]
    have hF : chF k p = 0 ↔ (p = 0 ∨ k ≤ p) := by unfold chF; split <;> omega
    by_cases e : chF k p = 0
    · have := hF.1 e
      rw [if_pos e]
      simp only [List.length_cons, List.length_nil]
      repeat' split
      all_goals omega
    · have : ¬ (p = 0 ∨ k ≤ p) := fun q => e (hF.2 q)
      rw [if_neg e]
      simp only [List.length_nil]
      repeat' split
      all_goals omega
theorem CH.waves (h : CH k t t g) (hk : 0 < k) (hkt : k ≤ t) : (wvL g).length = k ∧ (rowG (wvL g) 0).length = 1 + (t - k) := by
  unfold wvL
  rw [h.lv hkt]
  refine ⟨by rw [wavesL_len]; exact chL_top hk hkt, ?_⟩
  rw [wavesL_row (by rw [chL_top hk hkt]; exact hk), chL_len, chL_nought hk t (Nat.le_refl _), if_neg (by omega)]
  split <;> omega
theorem CH.groups (h : CH k t t g) : (grpL g).length = t := by rw [downs_len h.downs, h.len]
end
theorem none_waves : (wvL []).length = 0 := by
  have h1 : (grpL []).length ≤ ([] : Gr).length := grpI_len
  have h2 : lvL [] = [] := List.length_eq_zero_iff.1 (by rw [lvL_len]; simpa using h1)
  unfold wvL
  rw [wavesL_len, h2]; rfl
theorem gi_none (w : World) : GI w.heap.size w none 0 [] := ⟨rfl, by omega, fun i => by simp [rowG], .inl rfl⟩
theorem chL_snoc (k i : Nat) : chL k (i + 1) = chL k i ++ [chF k i] := by
  unfold chL; rw [List.range_succ, List.map_append]; rfl

theorem grd_beside {wp W w9 : World} {o : Nat} {v wv : Value} {vs : List Value} {rows : Gr} (hG : Grd wp o v vs rows) (hW : Below wp.heap.size wp W) (hg : W.grownBy w9 wv.ownBlock) (hv : ∀ q, v.ownBlock = some q → wv.ownBlock ≠ some q) (ha : ∀ j, j < rows.length → ∀ q, (vg vs j).ownBlock = some q → wv.ownBlock ≠ some q) : Grd w9 o v vs rows := by
  have hs := hW.size
  refine hG.agree (fun q hq => ?_) (fun j hj q hq => ?_)
  · have := (ownsRow_lo hG.own q hq).2
    rw [hg.block q (by omega) (fun e => hv q hq e.symm), hW.block q this]
  · have := (ownsRow_lo (hG.row j hj) q hq).2
    rw [hg.block q (by omega) (fun e => ha j hj q hq e.symm), hW.block q this]
/-- Another row, of what is wanted, has grown. -/
structure CW (k t : Nat) (o : Nat) (w wp : World) (i : Nat) (rows : Gr) (vs : List Value) (j : Nat) (wv : Value) : Prop where
  grd : Grd wp o (.slice (some ⟨o, 0, none⟩) t t) vs rows
  own : wp.ownsRow (o + 1) 3 1 wv j (intsOf (chL k j))
  ap : ∀ j, j < t → ∀ q, (vg vs j).ownBlock = some q → wv.ownBlock ≠ some q
  bel : Below o w wp
  len : rows.length = t
theorem CW.grow {k t o i j g9 c9 : Nat} {w wp w9 : World} {rows : Gr} {vs : List Value} {wv : Value} (h : CW k t o w wp i rows vs j wv) (cs : Array Value) (ty : TypeId) (hg : (wp.alloc (.cells cs ty)).grownBy w9 wv.ownBlock) (ho : w9.ownsRow (o + 1) 3 1 (.slice (some ⟨g9, 0, none⟩) (j + 1) c9) (j + 1) (intsOf (chL k j) ++ [.int .i64 (chF k j : Int)])) (hat : wv.ownBlock = some g9 ∨ g9 = (wp.alloc (.cells cs ty)).heap.size) : CW k t o w w9 i rows vs (j + 1) (.slice (some ⟨g9, 0, none⟩) (j + 1) c9) := by
  have hlo := ownsRow_lo h.own
  have hol := (ownsRow_lo h.grd.own o rfl).2
  refine ⟨grd_beside h.grd ((Below.refl _ _).alloc (Nat.le_refl _) _) hg (fun q hq e => ?_) (fun j hj q hq => h.ap j (by rw [← h.len]; exact hj) q hq), ?_, fun j' hj' q hq e => ?_, ?_, h.len⟩
  · cases hq
    have := (hlo o e).1; omega
  · rw [chL_snoc]; simpa [intsOf] using ho
  · have e : g9 = q := by simpa [Value.ownBlock] using e
    subst e
    have hq2 := (ownsRow_lo (h.grd.row j' (by rw [h.len]; exact hj')) g9 hq).2
    rcases hat with q2 | q2
    · exact h.ap j' hj' g9 hq q2
    · rw [World.size_alloc] at q2; omega
  · exact (h.bel.alloc (Nat.le_of_lt hol) _).grown hg (by rw [World.size_alloc]; omega) fun q hq => by have := (hlo q hq).1; omega
theorem CW.lay {k t o i j : Nat} {w wr : World} {rows : Gr} {vs : List Value} {wv : Value} (h : CW k t o w wr i rows vs j wv) (r : List Int) (hr : r.length ≤ 1000000) {p : Nat} (hp : p < t) : CW k t o w ((wr.setCell ⟨o, p, none⟩ (.slice (some ⟨wr.heap.size, 0, none⟩) r.length r.length)).alloc (.cells (intR r).toArray 3)) i (rows.set p r) (vs.set p (.slice (some ⟨wr.heap.size, 0, none⟩) r.length r.length)) j wv := by
  have hlo := ownsRow_lo h.own
  have hol := (ownsRow_lo h.grd.own o rfl).2
  refine ⟨grd_lay r hr h.grd h.len hp, ?_, fun j' hj' q hq e => ?_, ?_, by rw [List.length_set]; exact h.len⟩
  · exact ownsRow_below (own_set (a := ⟨o, p, none⟩) h.own (fun q hq => by have := (hlo q hq).1; show q ≠ o; omega) (.slice (some ⟨wr.heap.size, 0, none⟩) r.length r.length)) ((Below.refl _ _).alloc (Nat.le_refl _) _)
  · have hq2 := (hlo q e).2
    by_cases e2 : p = j'
    · subst e2
      rw [vg_set_self (by rw [h.grd.len, h.len]; exact hp)] at hq
      have : wr.heap.size = q := by simpa [Value.ownBlock] using hq
      omega
    · rw [vg_set_other e2] at hq
      exact h.ap j' hj' q hq e
  · rw [← World.setCell_alloc_past _ _ _ _ hol]
    exact (h.bel.alloc (Nat.le_of_lt hol) _).setCell (p := ⟨o, p, none⟩) (Nat.le_refl _) _

set_option maxRecDepth 100000 in
set_option maxHeartbeats 16000000 in
theorem wavechain_law (kn kb : Nat) (w : World) (hkn : kn ≤ 255) (hkb : kb ≤ 255) :
    Calls Try.prog 7 #[.int .u8 (kn : Int), .int .u8 (kb : Int)] w fun e w' => e = .returned (.bool true) ∧ Below w.heap.size w w' := by
  obtain ⟨i0, hi0, hz0, hz1, hz2⟩ := info_parts Try.info3
  obtain ⟨j0, hj0, hy0, hy1, hy2⟩ := info_parts Try.gRowInfo
  obtain ⟨r, hr⟩ : ∃ r, kn % 60 = r := ⟨_, rfl⟩
  have hr3 : r < 60 := by omega
  have er1 : (kn : Int) % 60 = (r : Int) := by omega
  have er2 : (kn : Int).tmod 60 = (r : Int) := by rw [Int.tmod_eq_emod_of_nonneg (by omega)]; exact er1
  obtain ⟨k, hk⟩ : ∃ k, 1 + r = k := ⟨_, rfl⟩
  have hk3 : k ≤ 60 := by omega
  have hk0 : 0 < k := by omega
  have ek : 1 + (r : Int) = (k : Int) := by omega
  obtain ⟨m, hbe⟩ : ∃ m, kb % 20 = m := ⟨_, rfl⟩
  have hm20 : m < 20 := by omega
  have eb1 : (kb : Int) % 20 = (m : Int) := by omega
  have eb2 : (kb : Int).tmod 20 = (m : Int) := by rw [Int.tmod_eq_emod_of_nonneg (by omega)]; exact eb1
  obtain ⟨t, ht⟩ : ∃ t, k + m = t := ⟨_, rfl⟩
  have et : (k : Int) + (m : Int) = (t : Int) := by omega
  have ht80 : t ≤ 80 := by omega
  have hkt : k ≤ t := by omega
  have hmk : (Instr.makeSlice 23 (.int .i64 (t : Int)) (.int .i64 (t : Int))).run Try.prog w = .ok (.slice (some ⟨w.heap.size, 0, none⟩) t t) (w.alloc (.cells (List.replicate t (Value.slice none 0 0)).toArray 26)) := by
    have h := run_make (P := Try.prog) w 23 26 j0 (.slice none 0 0) Try.underlying23 hj0 hy0 .i64 .i64 (t : Int) (t : Int) (by omega) (by omega) (by rw [hy2]; omega) (by omega)
    rw [hy1] at h
    have hm : madeCells (Value.slice none 0 0).cells (((t : Nat) : Int).toNat * 1) = (List.replicate t (Value.slice none 0 0)).toArray := by
      apply Array.ext'
      have := toList_madeCells_one (Value.slice none 0 0) t
      rw [show (Value.slice none 0 0).cells = #[Value.slice none 0 0] from rfl]
      simpa using this
    rw [hm] at h
    simpa using h
  obtain ⟨w1, hw1⟩ : ∃ w1, w.alloc (.cells (List.replicate t (Value.slice none 0 0)).toArray 26) = w1 := ⟨_, rfl⟩
  have HG0 : Hid (Grd w1 w.heap.size (.slice (some ⟨w.heap.size, 0, none⟩) t t) (List.replicate t (Value.slice none 0 0)) (List.replicate t [])) := by rw [← hw1]; exact grd_made (by omega)
  have HB0 : Hid (Below w.heap.size w w1) := by show Below _ _ _; rw [← hw1]; exact (Below.refl _ _).alloc (Nat.le_refl _) _
  rw [hw1] at hmk
  obtain ⟨o, ho⟩ : ∃ o, w.heap.size = o := ⟨_, rfl⟩
  rw [ho] at hmk HG0 HB0
  have HO := Lib.hid ho
  have HP0 := Lib.hid (CH.zero k t)
  have HCW : Hid (CW k t o w w1 0 (List.replicate t []) (List.replicate t (Value.slice none 0 0)) 0 (.slice none 0 0)) := ⟨HG0.out, World.ownsRow_nil _ _ _ _, (fun j _ q _ h => by cases h), HB0.out, by simp⟩
  have HTE := Lib.hid ht
  clear hw1 ho hr hk hbe ht
  go_enter Try.func7, Try.ntmps7
  go_wp2_with fail
  clear HG0 HB0
  go_loopw [8, 9] (fun wv iv wr => ∃ (i : Nat) (rows : Gr) (vs : List Value), i ≤ t ∧ iv = .int .i64 (i : Int) ∧ Hid (CH k t i rows) ∧ Hid (CW k t o w wr i rows vs i wv)) (fun _ iv _ => t - (intOf iv).toNat)
  case atStart => exact ⟨0, _, _, Nat.zero_le _, rfl, HP0, HCW⟩
  case round =>
    clear HP0 HCW hmk
    obtain ⟨i, rows, vs, hi1, rfl, HC, HCW⟩ := hrel
    have hol := (ownsRow_lo HCW.out.grd.own o rfl).2
    obtain ⟨wva, wvc, rfl⟩ := own_shape HCW.out.own
    by_cases hlt : i < t
    · have hlti : (i : Int) < (t : Int) := by omega
      by_cases h0 : 0 < i
      · by_cases hik : i < k
        · have h0' : (0 : Int) < (i : Int) := by omega
          have hik' : (i : Int) < (k : Int) := by omega
          have hgo := HCW.out.grd.own
          rw [HCW.out.len] at hgo
          have hfo : wr.frozen? ⟨o, i, none⟩ = false := hgo.frozenAt i
          have hco := hgo.cells (g := o) rfl i (vg vs i) (by simp [vg, List.getD, show i < vs.length by rw [HCW.out.grd.len, HCW.out.len]; exact hlt])
          rw [Addr.add_lit, Nat.zero_add] at hco
          obtain ⟨u, hu⟩ : ∃ u, vg vs i = u := ⟨_, rfl⟩
          rw [hu] at hco
          have T1 : ∀ W, Sem.run Try.prog (Instr.indexAt 23 (.slice (some ⟨o, 0, none⟩) t t) (.int .i64 (i : Int))) W = .ok (.pointer (some ⟨o, i, none⟩)) W := fun W => by go_simp
          have HC2 : Hid (CH k t (i + 1) (rows.set i [((i : Int) - 1), (i : Int)])) := HC.out.lay hlt h0 hik
          have HCL : Hid (CW k t o w ((wr.setCell ⟨o, i, none⟩ (.slice (some ⟨wr.heap.size, 0, none⟩) 2 2)).alloc (.cells #[.int .i64 ((i : Int) - 1), .int .i64 (i : Int)] 3)) i (rows.set i [((i : Int) - 1), (i : Int)]) (vs.set i (.slice (some ⟨wr.heap.size, 0, none⟩) 2 2)) i _) := HCW.out.lay [((i : Int) - 1), (i : Int)] (by simp) hlt
          have hcf : chF k i = i := by unfold chF; rw [if_pos hik]
          clear hgo hu
          go_upto_region 9 with fail
          obtain ⟨wp, hwp⟩ : ∃ wp, ((wr.setCell ⟨o, i, none⟩ (.slice (some ⟨wr.heap.size, 0, none⟩) 2 2)).alloc (.cells #[.int .i64 ((i : Int) - 1), .int .i64 (i : Int)] 3)) = wp := ⟨_, rfl⟩
          rw [hwp] at HCL ⊢
          have HCF := Lib.hid hcf
          have hol2 := (ownsRow_lo HCL.out.grd.own o rfl).2
          clear hwp hcf hco hfo
          go_wp2_with (at_builtin; refine wpList_append_lies _ rfl _ _ 26 rfl (o + 1) 3 i0 (.int .i64 0) 1 8 Try.underlying26 hi0 hz0 hz1 hz2 rfl (by decide) _ i (intsOf (chL k i)) rfl (HCL.out.own.alloc _) ⟨wp.heap.size, 0, none⟩ 1 1 [.int .i64 (i : Int)] rfl rfl (news_at (cs := [.int .i64 (i : Int)]) rfl) (by simp [Value.oneCell']) (by decide) ?c3 ?c4 ?c5 _ rfl ?_)
          case c3 => unfold maxLen; omega
          case c4 => omega
          case c5 => first | omega | (simp; omega)
          intro g9 cap9 w9 hown9 hgr9 hat9 hlt9
          have HC9 : Hid (CW k t o w w9 i (rows.set i [((i : Int) - 1), (i : Int)]) (vs.set i (.slice (some ⟨wr.heap.size, 0, none⟩) 2 2)) (i + 1) (.slice (some ⟨g9, 0, none⟩) (i + 1) cap9)) := HCL.out.grow _ _ hgr9 (by rw [HCF.out]; exact hown9) (by rw [World.size_alloc]; exact hat9)
          clear hown9 hgr9 hat9
          go_wp2_with fail
          go_roundw
          case rel => exact ⟨i + 1, _, _, by omega, by go_num, HC2, ⟨HC9.out.grd, HC9.out.own, HC9.out.ap, HC9.out.bel, HC9.out.len⟩⟩
          case measure => simp [intOf]; omega
        · have h0' : (0 : Int) < (i : Int) := by omega
          have hik' : ¬ (i : Int) < (k : Int) := by omega
          have HC2 : Hid (CH k t (i + 1) rows) := HC.out.skip (.inr (by omega))
          have HCF : Hid (chF k i = 0) := by show _ = _; unfold chF; rw [if_neg hik]
          go_wp2_with (at_builtin; refine wpList_append_lies _ rfl _ _ 26 rfl (o + 1) 3 i0 (.int .i64 0) 1 8 Try.underlying26 hi0 hz0 hz1 hz2 rfl (by decide) _ i (intsOf (chL k i)) rfl (HCW.out.own.alloc _) ⟨wr.heap.size, 0, none⟩ 1 1 [.int .i64 0] rfl rfl (news_at (cs := [.int .i64 0]) rfl) (by simp [Value.oneCell']) (by decide) ?c3 ?c4 ?c5 _ rfl ?_)
          case c3 => unfold maxLen; omega
          case c4 => omega
          case c5 => first | omega | (simp; omega)
          intro g9 cap9 w9 hown9 hgr9 hat9 hlt9
          have HC9 : Hid (CW k t o w w9 i rows vs (i + 1) (.slice (some ⟨g9, 0, none⟩) (i + 1) cap9)) := HCW.out.grow _ _ hgr9 (by rw [HCF.out]; exact hown9) (by rw [World.size_alloc]; exact hat9)
          clear hown9 hgr9 hat9
          go_wp2_with fail
          go_roundw
          case rel => exact ⟨i + 1, _, _, by omega, by go_num, HC2, ⟨HC9.out.grd, HC9.out.own, HC9.out.ap, HC9.out.bel, HC9.out.len⟩⟩
          case measure => simp [intOf]; omega
      · have hi0z : i = 0 := by omega
        subst hi0z
        have HC2 : Hid (CH k t (0 + 1) rows) := HC.out.skip (.inl rfl)
        have HCF : Hid (chF k 0 = 0) := by show _ = _; unfold chF; split <;> rfl
        go_wp2_with (at_builtin; refine wpList_append_lies _ rfl _ _ 26 rfl (o + 1) 3 i0 (.int .i64 0) 1 8 Try.underlying26 hi0 hz0 hz1 hz2 rfl (by decide) _ 0 (intsOf (chL k 0)) rfl (HCW.out.own.alloc _) ⟨wr.heap.size, 0, none⟩ 1 1 [.int .i64 0] rfl rfl (news_at (cs := [.int .i64 0]) rfl) (by simp [Value.oneCell']) (by decide) ?c3 ?c4 ?c5 _ rfl ?_)
        case c3 => unfold maxLen; omega
        case c4 => omega
        case c5 => first | omega | (simp; omega)
        intro g9 cap9 w9 hown9 hgr9 hat9 hlt9
        have HC9 : Hid (CW k t o w w9 0 rows vs (0 + 1) (.slice (some ⟨g9, 0, none⟩) (0 + 1) cap9)) := HCW.out.grow _ _ hgr9 (by rw [HCF.out]; exact hown9) (by rw [World.size_alloc]; exact hat9)
        clear hown9 hgr9 hat9
        go_wp2_with fail
        go_roundw
        case rel => exact ⟨0 + 1, _, _, by omega, by go_num, HC2, ⟨HC9.out.grd, HC9.out.own, HC9.out.ap, HC9.out.bel, HC9.out.len⟩⟩
        case measure => simp [intOf]; omega
    · have hit : i = t := by omega
      have hC := HC.out
      rw [hit] at hC
      have hge : ¬ ((i : Int) < (t : Int)) := by omega
      have hlv := hC.lv hkt
      have hwv := hC.waves hk0 hkt
      have hgr := hC.groups
      have hwrow : ∀ q, (rowG rows q).length ≤ 1000000 := fun q => by
        by_cases e : q = 0 ∨ k ≤ q ∨ t ≤ q
        · rw [hC.rest q e]; simp
        · rw [hC.row q (by omega) (by omega) (by omega)]; simp
      obtain ⟨av, cv, e, hgi⟩ := HCW.out.grd.read (by rw [HCW.out.len]; omega) hwrow
      injection e with e1 e2 e3
      subst e1
      subst e3
      rw [HCW.out.len] at hgi
      have HGI := Lib.hid hgi
      have HLV : Hid (∀ W, Below wr.heap.size wr W → Calls Try.prog 15 #[.slice (some ⟨o, 0, none⟩) t t] W fun e w' => Below W.heap.size W w' ∧ ∃ q, e = .returned (.slice (some ⟨q, 0, none⟩) t t) ∧ W.heap.size ≤ q ∧ Box w' q 3 (intsOf (chL k t))) := fun W h => by
        have := levels_any _ t t rows W (HGI.out.below h (Nat.le_refl _)) h.size (by omega)
        rwa [hlv, hgr] at this
      have HWV : Hid (∀ W, Below wr.heap.size wr W → Calls Try.prog 17 #[.slice (some ⟨o, 0, none⟩) t t] W fun e w' => Below W.heap.size W w' ∧ ∃ b off c' ai ci, e = .returned (.slice (some ⟨b, off, none⟩) k c') ∧ b < w'.heap.size ∧ w'.cell? ⟨b, off, none⟩ = some (.slice ai (1 + m) ci)) := fun W h => by
        have := waves_any _ t t rows W (HGI.out.below h (Nat.le_refl _)) h.size (by omega)
        refine this.mono ?_
        rintro e w' ⟨h1, a, c', rfl, h3⟩
        rw [hwv.1] at h3 ⊢
        obtain ⟨b, off, ai, ci, rfl, q1, q2, _⟩ := h3.row hk0
        rw [hwv.2, show t - k = m by have := HTE.out; omega] at q2
        exact ⟨h1, b, off, c', ai, ci, rfl, q1, q2⟩
      have HNV : Hid (∀ W : World, Calls Try.prog 17 #[.slice none 0 0] W fun e w' => Below W.heap.size W w' ∧ ∃ a c', e = .returned (.slice a 0 c')) := fun W => by
        have := waves_any none 0 0 [] W (gi_none W) (Nat.le_refl _) (by omega)
        rw [none_waves] at this
        refine this.mono ?_
        rintro e w' ⟨h1, a, c', rfl, _⟩
        exact ⟨h1, a, c', rfl⟩
      have HWN : Hid (wr.ownsRow (o + 1) 3 1 (.slice wva i wvc) t (intsOf (chL k t))) := by
        have := HCW.out.own
        rw [hit] at this
        rw [hit]; exact this
      have HBR : Hid (Below w.heap.size w wr) := by have := HCW.out.bel; rw [← HO.out] at this; exact this
      subst hit
      have HRW : Hid (∀ W, Below wr.heap.size wr W → Row 0 W.heap.size W wva i ((chL k i).map fun n : Nat => (n : Int))) := fun W h => by
        have h1 : W.ownsRow (o + 1) 3 1 (.slice wva i wvc) ((chL k i).map fun n : Nat => (n : Int)).length (intR ((chL k i).map fun n : Nat => (n : Int))) := by
          have := ownsRow_below HWN.out h
          rw [List.length_map, chL_len]
          rw [show intR ((chL k i).map fun n : Nat => (n : Int)) = intsOf (chL k i) by simp [intsOf]]
          exact this
        obtain ⟨a, c, e, h2⟩ := own_row h1
        rw [List.length_map, chL_len] at e h2
        cases e
        exact h2
      clear hC hlv hwv hgr hwrow hgi e2 ek er1 er2 eb1 eb2
      go_wp2_with (first
        | (go_at_call 17; (with_reducible refine (HWV.out _ (Below.refl _ _)).mono ?_); rintro e w2 ⟨hb2, b, off, c', ai, ci, rfl, hbl, hcb⟩; have HB2 := Lib.hid hb2; have HCB := Lib.hid hcb; have HBL2 := Lib.hid hbl; clear hb2 hcb hbl)
        | (go_at_call 15; (with_reducible refine (HLV.out _ HB2.out).mono ?_); rintro e w3 ⟨hb3, q, rfl, _, hx3⟩; have HB3 := Lib.hid (HB2.out.trans (hb3.mono HB2.out.size)); have HL3 := Lib.hid hb3; have HIN := Lib.hid (ints_any (some ⟨q, 0, none⟩) wva i i i wvc _ _ w3 (box_row hx3 chL_len) (HRW.out _ HB3.out) (by omega)); clear hb3 hx3)
        | (go_at_call 13; (with_reducible refine (HIN.out).mono ?_); simp only [decide_true]; rintro e w4 ⟨rfl, k4, rfl⟩; have HB4 := Lib.hid (below_drewN HB3.out k4); have hcb4 : (w3.drewN k4).cell? ⟨b, off, none⟩ = some (.slice ai (1 + m) ci) := ((below_drewN HL3.out k4).cell (p := ⟨b, off, none⟩) HBL2.out).trans HCB.out; have hbl4 : b < (w3.drewN k4).heap.size := Nat.lt_of_lt_of_le HBL2.out HL3.out.size; clear HIN)
        | (go_at_call 17; (with_reducible refine (HNV.out _).mono ?_); rintro e w5 ⟨hb5, a5, c5, rfl⟩; have HB5 := Lib.hid (HB4.out.trans (hb5.mono HB4.out.size)); clear hb5 hcb4 hbl4)
        | (go_at_call 19; (with_reducible refine (awake6_any _).mono ?_); rintro e w9 ⟨rfl, hb9⟩; have HB9 := Lib.hid (HB5.out.trans (hb9.mono HB5.out.size)); clear hb9))
      go_ret
      exact ⟨rfl, HBR.out.trans (HB9.out.mono HBR.out.size)⟩

end Go.Proofs.Ytdbjmonboecfgaa
