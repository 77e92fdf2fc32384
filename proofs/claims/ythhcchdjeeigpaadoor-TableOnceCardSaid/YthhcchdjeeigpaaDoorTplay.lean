/- Contracts of package table's goOn (whole), got, Play. -/
import Derived.Test.YthhcchdjeeigpaaDoorTgoc
import Derived.Test.YthhcchdjeeigpaaDoorCrew
namespace Go.Proofs.YthhcchdjeeigpaaDoor
open Go.RowKit Go.Maps
set_option linter.unusedVariables false
set_option linter.unusedSimpArgs false

theorem sum_le_get : ∀ {a b : List Nat}, a.length = b.length → (∀ (i x y : Nat), a[i]? = some x → b[i]? = some y → x ≤ y) → a.sum ≤ b.sum
  | [], b, h, _ => by simp
  | x :: a, [], h, _ => by simp at h
  | x :: a, y :: b, h, hi => by
    have h1 := hi 0 x y rfl rfl
    have h2 := sum_le_get (a := a) (b := b) (by simpa using h) (fun i x' y' hx hy => hi (i + 1) x' y' (by simpa using hx) (by simpa using hy))
    simp
    omega
theorem TwOk.got_le {room : Int} {keys s : List Ky} {k : Tw} (h : TwOk room keys s k) : k.got.length ≤ s.length := by
  obtain ⟨d, hd, hg⟩ := h.spl
  have hn := h.ne
  rw [hd, List.length_append]
  by_cases h2 : k.st = 2
  · rw [if_pos h2] at hg
    have : 0 < k.left.length := List.length_pos_iff.2 (hn (by omega))
    omega
  · rw [if_neg h2] at hg
    omega
theorem TOk.keys_le {σ : Ky → Int} {room : Int} {ss : List (List Ky)} {g : Tg} (h : TOk σ room ss g) : g.keys.length ≤ (ss.map List.length).sum := by
  refine Nat.le_trans h.cnt (sum_le_get (by simp [h.len]) fun i x y hx hy => ?_)
  rw [List.getElem?_map] at hx hy
  cases hk : g.ws[i]? with
  | none => rw [hk] at hx; cases hx
  | some k =>
    cases hs : ss[i]? with
    | none => rw [hs] at hy; cases hy
    | some s =>
      rw [hk] at hx
      rw [hs] at hy
      cases hx; cases hy
      exact (h.ok i k s hk hs).got_le
theorem len_le_sum {ss : List (List Ky)} {s : List Ky} (h : s ∈ ss) : s.length ≤ (ss.map List.length).sum := tle_sum (List.mem_map.2 ⟨s, h, rfl⟩)

theorem tgo_w (w : World) (n room : Int) (W lo hi e0 G B M H : Nat) (kv : Value) (gs : List Value) (g : Tg) (ss : List (List Ky)) (h : TG w n room W lo hi e0 G B M H kv gs g) (hok : TOk (sg n) room ss g) (i : Nat) (hi' : i < g.ws.length) (he : g.enW (sg n) (g.tw i) = true) (hf : ∀ s ∈ ss, ∀ k ∈ s, kfit k) (hn : (ss.map List.length).sum ≤ 4096) (htm : g.tm ≤ 1000000) (hW : W ≤ 1000) :
    Calls Tryd.prog 48 #[.pointer (some ⟨G, 0, none⟩), .int .i64 (i : Int)] w fun e w' => e = .returned (.tuple #[]) ∧ ∃ kv' gs', TG w' n room W lo hi e0 G B M H kv' gs' (tadv room g i) ∧ Out (TS G B M H e0) w w' := by
  have hk := Tg.tw_get hi'
  obtain ⟨q, l, hl, hlock⟩ := enW_cases he
  obtain ⟨s, hs⟩ : ∃ s, ss[i]? = some s := ⟨_, List.getElem?_eq_getElem (by rw [← hok.len]; exact hi')⟩
  have hko := hok.ok i _ s hk hs
  have hst := hko.st
  have hsm := List.mem_of_getElem? hs
  obtain ⟨d, hd, _⟩ := hko.spl
  have hfit : kfit q := hf s hsm q (by rw [hd, hl]; simp)
  have hgl : (g.tw i).got.length ≤ 1000000 := by have := hko.got_le; have := len_le_sum hsm; omega
  have hkl : g.keys.length ≤ 1000000 := by have := hok.keys_le; omega
  have hcase : (g.tw i).st = 0 ∨ (g.tw i).st = 1 ∨ (g.tw i).st = 2 := by omega
  rcases hcase with h0 | h0 | h0
  · refine go_take w n room W lo hi e0 G B M H kv gs g h i _ q l hk hl h0 (hlock h0) htm hW (tadv room g i) ?_ ?_ rfl
    · show g.ws.set i _ = _
      unfold Tw.adv; rw [hl]; simp only; rw [if_pos h0]
    · show Tw.keys _ _ _ = _
      unfold Tw.keys; rw [hl]; simp only; rw [if_neg (by omega)]
  · refine go_look w n room W lo hi e0 G B M H kv gs g h i _ q l hk hl h0 hfit hgl hkl htm hW (tadv room g i) ?_ ?_ rfl
    · show g.ws.set i _ = _
      unfold Tw.adv; rw [hl]; simp only; rw [if_neg (by omega), if_pos h0]
    · show Tw.keys _ _ _ = _
      unfold Tw.keys; rw [hl]; simp only; rw [if_pos h0]
  · refine go_drop w n room W lo hi e0 G B M H kv gs g h i _ q l hk hl h0 ?_ htm hW (tadv room g i) ?_ ?_ rfl
    · intro j k' hne hj
      refine hok.dist i j _ _ (Ne.symm hne) hk hj _ ?_
      unfold Tw.hold; rw [if_neg (by omega), hl]; rfl
    · show g.ws.set i _ = _
      unfold Tw.adv; rw [hl]; simp only; rw [if_neg (by omega), if_neg (by omega)]
    · show Tw.keys _ _ _ = _
      unfold Tw.keys; rw [hl]; simp only; rw [if_neg (by omega)]

theorem Tryd.tsliceInfo : (Tryd.prog.info? 22).map (fun i => (i.zero, i.size, i.bytes)) = some (some (.slice none 0 0), 1, 24) := by kernel_rfl

/-- Lists that were told, so many of them. -/
def gotsTo (gs : List Value) (k : Nat) : List (List Value) := (gs.take k).map (fun v => [v]) ++ List.replicate (gs.length - k) [.slice none 0 0]
theorem gotsTo_len (gs : List Value) (k : Nat) : ∀ y ∈ gotsTo gs k, y.length = 1 := by
  intro y hy
  rcases List.mem_append.1 hy with h | h
  · obtain ⟨v, _, rfl⟩ := List.mem_map.1 h; rfl
  · rw [(List.mem_replicate.1 h).2]; rfl
theorem gotsTo_get (gs : List Value) (k : Nat) (h : k < gs.length) : (gotsTo gs k)[k]? = some [.slice none 0 0] := by
  unfold gotsTo
  rw [List.getElem?_append_right (by simp; omega), List.getElem?_replicate, if_pos (by simp; omega)]
theorem gotsTo_set (gs : List Value) (k : Nat) (v : Value) (h : gs[k]? = some v) : (gotsTo gs k).set k [v] = gotsTo gs (k + 1) := by
  have hi := (List.getElem?_eq_some_iff.1 h).1
  unfold gotsTo
  have e : gs.length - k = (gs.length - (k + 1)) + 1 := by omega
  have ht : gs.take (k + 1) = gs.take k ++ [v] := by rw [List.take_add_one, h]; rfl
  rw [ht, List.set_append_right _ _ (by simp; omega), e, List.replicate_succ]
  have e2 : k - ((gs.take k).map (fun v => [v])).length = 0 := by simp; omega
  rw [e2, List.set_cons_zero, List.map_append, List.append_assoc]
  rfl
theorem gotsTo_all (gs : List Value) : gotsTo gs gs.length = gs.map (fun v => [v]) := by simp [gotsTo]

set_option maxRecDepth 100000 in
set_option maxHeartbeats 4000000 in
theorem got_w (w : World) (n room : Int) (W lo hi e0 G B M H : Nat) (kv : Value) (gs : List Value) (g : Tg) (h : TG w n room W lo hi e0 G B M H kv gs g) (hW : W ≤ 1000) :
    Calls Tryd.prog 49 #[.pointer (some ⟨G, 0, none⟩)] w fun e w' => ∃ gg, e = .returned (.slice (some ⟨gg, 0, none⟩) W W) ∧ w.heap.size ≤ gg ∧ RowsIn 1 w' gg (gs.map fun v => [v]) ∧ Below w.heap.size w w' := by
  obtain ⟨i0, hi0, hz0, hz1, hz2⟩ := info_parts Tryd.tsliceInfo
  obtain ⟨mk, hmk⟩ : ∃ m, m = madeCells #[Value.slice none 0 0] (W * 1) := ⟨_, rfl⟩
  have hmake : ∀ W', Sem.run Tryd.prog (Instr.makeSlice 58 (.int .i64 (W : Int)) (.int .i64 (W : Int))) W' = .ok (.slice (some ⟨W'.heap.size, 0, none⟩) W W) (W'.alloc (.cells mk 22)) := fun W' => by
    have := run_makeSlice (P := Tryd.prog) (w := W') 58 22 i0 _ Tryd.underlying58 hi0 hz0 .i64 .i64 (W : Int) (W : Int) (by omega) (Int.le_refl _) (by rw [hz1]; omega) (by rw [hz2]; omega) (by omega)
    rw [hz1] at this
    rw [hmk]
    simpa [Value.cells] using this
  have hrow0 : RowsIn 1 (w.alloc (.cells mk 22)) w.heap.size (gotsTo gs 0) := by
    have := RowsIn.made (k := 1) w [.slice none 0 0] W 22 rfl
    rw [hmk]
    have e : gotsTo gs 0 = List.replicate W [.slice none 0 0] := by unfold gotsTo; rw [h.gl]; simp
    rw [e]; exact this
  have hG := h.box.lt
  obtain ⟨_, _, _, _, _, _⟩ := h.box.six
  have hb1 : Below w.heap.size w (w.alloc (.cells mk 22)) := (Below.refl _ _).alloc (Nat.le_refl _) _
  have hg1 := h.box.below hb1
  obtain ⟨_, _, _, _, _, _⟩ := hg1.six
  have hG1 := hg1.lt
  have HH := Lib.hid h
  have HR0 := Lib.hid hrow0
  clear h hrow0 hmk hg1
  go_enter Tryd.func49, Tryd.ntmps49
  go_wp2
  go_loopw [17] (fun i wr => ∃ k : Nat, k ≤ W ∧ i = .int .i64 k ∧ Hid (RowsIn 1 wr w.heap.size (gotsTo gs k)) ∧ Below w.heap.size w wr) (fun i _ => W - (intOf i).toNat)
  case atStart => exact ⟨0, Nat.zero_le _, rfl, HR0.out, hb1⟩
  case round =>
    clear HR0 hb1 hG1
    obtain ⟨k, hk, rfl, HR, hb⟩ := hrel
    by_cases hlt : k < W
    · have hsz := HR.out.1
      have hgr := HH.out.below hb
      have hGr := hgr.box.lt
      obtain ⟨_, _, _, _, _, _⟩ := hgr.box.six
      obtain ⟨kk, hkk⟩ : ∃ kk, g.ws[k]? = some kk := ⟨_, List.getElem?_eq_getElem (by rw [hgr.wl]; exact hlt)⟩
      obtain ⟨gv, hg⟩ : ∃ gv, gs[k]? = some gv := ⟨_, List.getElem?_eq_getElem (by rw [hgr.gl]; exact hlt)⟩
      obtain ⟨ga, gc, rfl⟩ := ownsRow_shape (hgr.gots k kk gv hkk hg)
      obtain ⟨a, c, hcap, hsl, hcell⟩ := hgr.rows.get hkk hg
      have c0 := (hcell 0 _ rfl).1
      have c1 := (hcell 1 _ rfl).1
      have c2 := (hcell 2 _ rfl).1
      simp only [Nat.add_zero] at c0
      have hBr : B < wr.heap.size := by have := hgr.lB; have := hgr.lh; have := hgr.he; have := hgr.es; omega
      have hsr := hb.size
      obtain ⟨j, hj⟩ : ∃ j, j = k * 3 := ⟨_, rfl⟩
      rw [← hj] at c0 c1 c2
      have hk0 : (0 : Int) ≤ (k : Int) := by omega
      have hk1 : (k : Int) < (W : Int) := by omega
      have T2 : ∀ W0, Sem.run Tryd.prog (Instr.indexAt 112 (.slice (some ⟨B, 0, none⟩) W W) (.int .i64 (k : Int))) W0 = .ok (.pointer (some ⟨B, j, none⟩)) W0 := fun W0 => by rw [hj]; go_simp
      obtain ⟨L, hL⟩ : ∃ L, kk.left.length = L := ⟨_, rfl⟩
      rw [hL] at c0
      obtain ⟨st, hst⟩ : ∃ s, kk.st = s := ⟨_, rfl⟩
      rw [hst] at c1
      obtain ⟨gn, hgn⟩ : ∃ s, kk.got.length = s := ⟨_, rfl⟩
      rw [hgn] at c2 hg
      have hnew := Box.new wr 142 [.slice a L c, .int .i64 (st : Int), .slice ga gn gc]
      simp only [List.toArray] at hnew
      obtain ⟨_, _, _, _, _, _⟩ := hnew.three
      have hwl : wr.heap.size < (wr.alloc (.cells #[.slice a L c, .int .i64 (st : Int), .slice ga gn gc] 142)).heap.size := by simp
      have hra := HR.out.agree (w' := wr.alloc (.cells #[.slice a L c, .int .i64 (st : Int), .slice ga gn gc] 142)) (Below.heap_alloc wr _ _ hsz) (by simp)
      obtain ⟨hcl, hfl⟩ := hra.2 k _ (gotsTo_get gs k (by rw [hgr.gl]; exact hlt)) 0 _ rfl
      simp only [Nat.mul_one, Nat.add_zero] at hcl hfl
      have hput := (HR.out.put (j := 0) (gotsTo_get gs k (by rw [hgr.gl]; exact hlt)) rfl (gotsTo_len gs k) (v := .slice ga gn gc))
      rw [show ([Value.slice none 0 0].set 0 (Value.slice ga gn gc)) = [Value.slice ga gn gc] from rfl, gotsTo_set gs k _ hg] at hput
      simp only [Nat.mul_one, Nat.add_zero] at hput
      have HPUT := Lib.hid hput
      have HB := Lib.hid hb
      have hwl2 : w.heap.size < (wr.alloc (.cells #[.slice a L c, .int .i64 (st : Int), .slice ga gn gc] 142)).heap.size := by omega
      clear hput hb hra hgr hkk hg hcap hsl hcell hnew hj hst hgn hL
      go_wp2_with fail
      go_roundw
      case rel => exact ⟨k + 1, by omega, by go_num, HPUT.out.agree (Below.heap_alloc _ _ _ (by simpa using hsz)) (by simp), (HB.out.setCell (p := ⟨w.heap.size, k, none⟩) (Nat.le_refl _) _).alloc (by simp; omega) _⟩
      case measure => simp [intOf]; omega
    · obtain rfl : k = W := by omega
      go_wp2_with fail
      go_ret
      have e : gotsTo gs k = gs.map (fun v => [v]) := by rw [← HH.out.gl]; exact gotsTo_all gs
      have := HR.out
      rw [e] at this
      exact ⟨_, rfl, Nat.le_refl _, this, hb⟩

end Go.Proofs.YthhcchdjeeigpaaDoor
