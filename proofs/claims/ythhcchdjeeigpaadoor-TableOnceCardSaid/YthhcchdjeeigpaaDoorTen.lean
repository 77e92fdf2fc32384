/- Contracts of package table's waits, enabled. -/
import Derived.Test.YthhcchdjeeigpaaDoorTstart
namespace Go.Proofs.YthhcchdjeeigpaaDoor
open Go.RowKit Go.Maps
set_option linter.unusedVariables false
set_option linter.unusedSimpArgs false

theorem look_some {P : Program} {w : World} {t k e : TypeId} {q : IntKind} (KK : Keyed P k) (ht : P.underlying t = some (.map k e)) (he : P.underlying e = some (.int q)) (hz : (zeroValue e).run P w = .ok (.int q 0) w) {b n : Nat} {D : DataW Unit}
    (hown : w.ownsMap P k (plainElem P e) b n D) {key : Value} {kl : Lit} (hkey : keyOf P k key = some kl) :
    ∃ c, Sem.run P (Instr.lookup t (.map (some b)) key true) w = .ok (.tuple #[.int q c, .bool (Maps.has D kl)]) w ∧ D.atKey kl (.lit (.int q 0)) = .lit (.int q c) := by
  obtain ⟨u, ps, hrun, hu⟩ := hown.look_ok KK ht hz (plainElem_int he (by cases q <;> decide)) hkey
  obtain ⟨c', rfl, hc', _⟩ := plainElem_int_inv he hu
  exact ⟨c', hrun, congrArg Prod.fst hc'⟩

theorem sg_fit (n : Int) (k : Ky) : tfit (sg n k) := by
  have h1 := strI_bd k.s.data.toList k.a k.b n
  have h2 := cutS_bd n
  unfold sg tfit
  omega

/-- A worker's cells. -/
theorem TRow.get {n : Int} {lo hi B W i : Nat} {w : World} {gs : List Value} {ws : List Tw} {k : Tw} {gv : Value} (h : TRow n lo hi w B W gs ws) (hk : ws[i]? = some k) (hg : gs[i]? = some gv) :
    ∃ a c, k.left.length ≤ c ∧ Sl 4 lo hi w a k.left.length (k.left.map (acell n)) ∧ (∀ j v, (tcell k (.slice a k.left.length c) gv)[j]? = some v → w.cell? ⟨B, i * 3 + j, none⟩ = some v ∧ w.frozen? ⟨B, i * 3 + j, none⟩ = false) := by
  obtain ⟨cs, h1, h2, h3⟩ := h
  obtain ⟨av, h4, a, c, rfl, h5, h6⟩ := h3 i k gv hk hg
  exact ⟨a, c, h5, h6, fun j v hv => h1.2 i _ h4 j v hv⟩

set_option maxRecDepth 100000 in
set_option maxHeartbeats 2000000 in
theorem waits_core (w : World) (G B M H W i st len c : Nat) (room tm sq cc : Int) (kv : Value) (ga : Option Addr) (gn gc : Nat) (b off : Nat) (v r : Bool) (hb : Box w G 114 [.int .i64 room, kv, .map (some M), .map (some H), .slice (some ⟨B, 0, none⟩) W W, .int .i64 tm]) (hi : i < W)
    (h0 : w.cell? ⟨B, i * 3, none⟩ = some (.slice (some ⟨b, off, none⟩) (len + 1) c)) (h1 : w.cell? ⟨B, i * 3 + 1, none⟩ = some (.int .i64 (st : Int))) (h2 : w.cell? ⟨B, i * 3 + 2, none⟩ = some (.slice ga gn gc)) (hB : B < w.heap.size) (h3 : w.cell? ⟨b, off + 3, none⟩ = some (.int .i64 sq)) (hbl : b < w.heap.size) (hW : W ≤ 1000)
    (hrun : Sem.run Tryd.prog (Instr.lookup 111 (.map (some H)) (.int .i64 sq) true) (w.alloc (.cells #[.slice (some ⟨b, off, none⟩) (len + 1) c, .int .i64 (st : Int), .slice ga gn gc] 142)).drew = .ok (.tuple #[.int .i64 cc, .bool v]) (w.alloc (.cells #[.slice (some ⟨b, off, none⟩) (len + 1) c, .int .i64 (st : Int), .slice ga gn gc] 142)).drew)
    (h : (st ≠ 0 ∧ r = false) ∨ (st = 0 ∧ v = false ∧ r = false) ∨ (st = 0 ∧ v = true ∧ cc ≠ (i : Int) ∧ r = true)) :
    Calls Tryd.prog 69 #[.pointer (some ⟨G, 0, none⟩), .int .i64 (i : Int)] w fun e w' => e = .returned (.bool r) ∧ Below w.heap.size w w' := by
  have hGl := hb.lt
  obtain ⟨j, hj⟩ : ∃ j, j = i * 3 := ⟨_, rfl⟩
  rw [← hj] at h0 h1 h2
  have hi0 : (0 : Int) ≤ (i : Int) := by omega
  have hi1 : (i : Int) < (W : Int) := by omega
  have T2 : ∀ W0, Sem.run Tryd.prog (Instr.indexAt 112 (.slice (some ⟨B, 0, none⟩) W W) (.int .i64 (i : Int))) W0 = .ok (.pointer (some ⟨B, j, none⟩)) W0 := fun W0 => by rw [hj]; go_simp
  obtain ⟨_, _, _, _, _, _⟩ := hb.six
  have ha := hb.alloc (.cells #[.slice (some ⟨b, off, none⟩) (len + 1) c, .int .i64 (st : Int), .slice ga gn gc] 142)
  have hx := Box.new w 142 [.slice (some ⟨b, off, none⟩) (len + 1) c, .int .i64 (st : Int), .slice ga gn gc]
  simp only [List.toArray] at hx
  obtain ⟨_, _, _, _, _, _⟩ := ha.six
  obtain ⟨_, _, _, _, _, _⟩ := hx.three
  have h3' : (w.alloc (.cells #[.slice (some ⟨b, off, none⟩) (len + 1) c, .int .i64 (st : Int), .slice ga gn gc] 142)).cell? ⟨b, off + 3, none⟩ = some (.int .i64 sq) := (World.cell?_of_block (Below.heap_alloc w _ b hbl)).trans h3
  have hwl : w.heap.size < (w.alloc (.cells #[.slice (some ⟨b, off, none⟩) (len + 1) c, .int .i64 (st : Int), .slice ga gn gc] 142)).heap.size := by simp
  have HB : Hid (Below w.heap.size w (w.alloc (.cells #[.slice (some ⟨b, off, none⟩) (len + 1) c, .int .i64 (st : Int), .slice ga gn gc] 142))) := (Below.refl _ _).alloc (Nat.le_refl _) _
  have hlen0 : (0 : Int) < ((len + 1 : Nat) : Int) := by omega
  clear hb ha hx hj
  rcases h with ⟨hst, rfl⟩ | ⟨hst, rfl, rfl⟩ | ⟨hst, rfl, hcc, rfl⟩
  · have hs0 : ((st : Int) == 0) = false := by simp; omega
    go_enter Tryd.func69, Tryd.ntmps69
    go_wp2_with fail
    go_region
    go_wp2_with fail
    go_ret
    exact ⟨rfl, HB.out.drew⟩
  · have hs0 : ((st : Int) == 0) = true := by rw [hst]; rfl
    clear hst
    go_enter Tryd.func69, Tryd.ntmps69
    go_wp2_with fail
    go_region
    go_wp2_with fail
    go_ret
    exact ⟨rfl, HB.out.drew⟩
  · have hne : (cc != (i : Int)) = true := by simp [hcc]
    have hs0 : ((st : Int) == 0) = true := by rw [hst]; rfl
    clear hst hcc
    go_enter Tryd.func69, Tryd.ntmps69
    go_wp2_with fail
    go_region
    go_wp2_with fail
    go_ret
    exact ⟨rfl, HB.out.drew⟩

theorem waits_w (w : World) (n room : Int) (W lo hi e0 G B M H : Nat) (kv : Value) (gs : List Value) (g : Tg) (h : TG w n room W lo hi e0 G B M H kv gs g) (i : Nat) (k : Tw) (q : Ky) (l : List Ky) (hk : g.ws[i]? = some k) (hl : k.left = q :: l) (hW : W ≤ 1000) (r : Bool) (hr : (decide (k.st = 0) && g.locked (sg n) (sg n q)) = r) :
    Calls Tryd.prog 69 #[.pointer (some ⟨G, 0, none⟩), .int .i64 (i : Int)] w fun e w' => e = .returned (.bool r) ∧ Below w.heap.size w w' := by
  have hi : i < W := by rw [← h.wl]; exact (List.getElem?_eq_some_iff.1 hk).1
  obtain ⟨gv, hg⟩ : ∃ gv, gs[i]? = some gv := ⟨_, List.getElem?_eq_getElem (by rw [h.gl]; exact hi)⟩
  obtain ⟨ga, gc, rfl⟩ := ownsRow_shape (h.gots i k gv hk hg)
  obtain ⟨a, c, hcap, hsl, hcell⟩ := h.rows.get hk hg
  rw [hl] at hsl hcap hcell
  obtain ⟨b, off, rfl, hb1, hb2, hat⟩ := hsl.at (by simp)
  have hll : (q :: l).length = l.length + 1 := rfl
  rw [hll] at hcell
  have c0 := (hcell 0 _ rfl).1
  have c1 := (hcell 1 _ rfl).1
  have c2 := (hcell 2 _ rfl).1
  have c3 := hat 0 (acell n q) rfl 3 _ rfl
  simp only [Nat.zero_mul, Nat.add_zero] at c0 c3
  have hbw : b < w.heap.size := by have := h.he; have := h.es; omega
  have hBw : B < w.heap.size := by have := h.lB; have := h.lh; have := h.he; have := h.es; omega
  obtain ⟨D, m, hD, hinv, _⟩ := h.lock
  have hkey := keyOf_int_mk (k := 3) Tryd.underlying3 (tfit_wf (sg_fit n q))
  obtain ⟨cc, hrun, hcc⟩ := look_some (w := (w.alloc (.cells #[.slice (some ⟨b, off, none⟩) (l.length + 1) c, .int .i64 (k.st : Int), .slice ga k.got.length gc] 142)).drew) Tryd.tintKeyed Tryd.underlying111 Tryd.underlying3 (Tryd.tzeroInt _) (hD.alloc _) hkey
  rw [hinv_has hinv] at hrun
  refine waits_core w G B M H W i k.st l.length c room g.tm (sg n q) cc kv ga k.got.length gc b off _ r h.box hi c0 c1 c2 hBw c3 hbw hW hrun ?_
  by_cases hst : k.st = 0
  · cases hlk : g.locked (sg n) (sg n q) with
    | false => exact .inr (.inl ⟨hst, rfl, by rw [← hr, hlk]; simp⟩)
    | true =>
      refine .inr (.inr ⟨hst, rfl, ?_, by rw [← hr, hlk, hst]; rfl⟩)
      obtain ⟨j, kj, hj, hh⟩ := Tg.locked_iff.1 hlk
      have := hinv.2.2.2 j kj _ hj hh
      rw [hcc] at this
      have hcj : cc = (j : Int) := by cases this; rfl
      rw [hcj]
      intro e
      have : j = i := by omega
      subst this
      rw [hk] at hj
      cases hj
      unfold Tw.hold at hh
      rw [if_pos hst] at hh
      cases hh
  · exact .inl ⟨hst, by rw [← hr]; simp [hst]⟩

theorem Tryd.tboolInfo : (Tryd.prog.info? 4).map (fun i => (i.zero, i.size, i.bytes)) = some (some (.bool false), 1, 1) := by kernel_rfl
theorem bools_upd (l : List Bool) (k : Nat) (h : k < l.length) : ((l.take k ++ List.replicate (l.length - k) false).map Value.bool).set k (.bool (l.getD k false)) = (l.take (k + 1) ++ List.replicate (l.length - (k + 1)) false).map Value.bool := by
  rw [← List.map_set]
  congr 1
  have hg : l.take (k + 1) = l.take k ++ [l.getD k false] := by
    rw [List.take_add_one, List.getElem?_eq_getElem h]; simp [List.getD, h]
  have e : l.length - k = (l.length - (k + 1)) + 1 := by omega
  rw [hg, List.set_append_right _ _ (by simp; omega)]
  have e2 : k - (l.take k).length = 0 := by simp; omega
  rw [e2, e, List.replicate_succ, List.set_cons_zero, List.append_assoc]
  rfl

set_option maxRecDepth 100000 in
set_option maxHeartbeats 4000000 in
theorem tenabled_w (w : World) (n room : Int) (W lo hi e0 G B M H : Nat) (kv : Value) (gs : List Value) (g : Tg) (h : TG w n room W lo hi e0 G B M H kv gs g) (hW : W ≤ 1000) :
    Calls Tryd.prog 47 #[.pointer (some ⟨G, 0, none⟩)] w fun e w' => ∃ a c, e = .returned (.slice a W c) ∧ RowB w.heap.size w'.heap.size w' a W (g.en (sg n)) ∧ Below w.heap.size w w' := by
  obtain ⟨i0, hi0, hz0, hz1, hz2⟩ := info_parts Tryd.tboolInfo
  have hG := h.box.lt
  have hGl : G < w.heap.size := hG
  obtain ⟨_, _, _, _, _, _⟩ := h.box.six
  have hlen : (g.en (sg n)).length = W := by rw [Tg.en_length, h.wl]
  obtain ⟨l, hl⟩ : ∃ l, g.en (sg n) = l := ⟨_, rfl⟩
  have HEN : Hid (∀ (i : Nat) (k : Tw), g.ws[i]? = some k → l.getD i false = g.enW (sg n) k) := fun i k hk => by
    rw [← hl]; unfold Tg.en; rw [List.getD_eq_getElem?_getD, List.getElem?_map, hk]; rfl
  rw [hl] at hlen ⊢
  have HH := Lib.hid h
  have HL := Lib.hid hlen
  clear h hlen hl
  go_enter Tryd.func47, Tryd.ntmps47
  go_wp2_with (at_make; refine wpList_make_full _ rfl _ _ 77 rfl w.heap.size 4 i0 (.bool false) 1 Tryd.underlying77 hi0 hz0 hz1 _ _ _ _ W rfl rfl rfl rfl ?m1 ?m2 ?m3 ?_)
  case m1 => rw [hz2]; omega
  case m2 => unfold maxLen; omega
  case m3 => simp
  intro w1 hown hgr
  rw [toList_madeCells_one] at hown
  have hb1 : Below w.heap.size w w1 := (Below.refl _ _).grown hgr (Nat.le_refl _) (by simp)
  have hg1 := HH.out.box.below hb1
  obtain ⟨_, _, _, _, _, _⟩ := hg1.six
  have hG1 := hg1.lt
  clear hgr hg1
  go_wp2
  go_loopw [17] (fun i wr => ∃ k : Nat, k ≤ W ∧ i = .int .i64 k ∧ wr.ownsRow w.heap.size 4 1 (.slice (some ⟨w.heap.size, 0, none⟩) W W) W ((l.take k ++ List.replicate (W - k) false).map Value.bool) ∧ Below w.heap.size w wr) (fun i _ => W - (intOf i).toNat)
  case atStart => exact ⟨0, Nat.zero_le _, rfl, by simpa using hown, hb1⟩
  case round =>
    clear hown hb1 hG1
    obtain ⟨k, hk, rfl, hown, hb⟩ := hrel
    by_cases hlt : k < W
    · have hsz : w.heap.size < wr.heap.size := (hown.lt w.heap.size rfl).2
      have hgr := HH.out.below hb
      have HGR := Lib.hid hgr
      have hGr := hgr.box.lt
      obtain ⟨_, _, _, _, _, _⟩ := hgr.box.six
      obtain ⟨kk, hkk⟩ : ∃ kk, g.ws[k]? = some kk := ⟨_, List.getElem?_eq_getElem (by rw [hgr.wl]; exact hlt)⟩
      obtain ⟨gv, hg⟩ : ∃ gv, gs[k]? = some gv := ⟨_, List.getElem?_eq_getElem (by rw [hgr.gl]; exact hlt)⟩
      obtain ⟨ga, gc, rfl⟩ := ownsRow_shape (hgr.gots k kk gv hkk hg)
      obtain ⟨a, c, hcap, hsl, hcell⟩ := hgr.rows.get hkk hg
      have c0 := (hcell 0 _ rfl).1
      have c1 := (hcell 1 _ rfl).1
      have c2 := (hcell 2 _ rfl).1
      simp only [Nat.add_zero] at c0
      have hBr : B < wr.heap.size := by have := hgr.lB; have := hgr.lh; have := hgr.he; have := hgr.es; omega
      have hen := HEN.out k kk hkk
      have HKK := Lib.hid hkk
      have HOW := Lib.hid hown
      have HB := Lib.hid hb
      obtain ⟨j, hj⟩ : ∃ j, j = k * 3 := ⟨_, rfl⟩
      rw [← hj] at c0 c1 c2
      have hk0 : (0 : Int) ≤ (k : Int) := by omega
      have hk1 : (k : Int) < (W : Int) := by omega
      have T2 : ∀ W0, Sem.run Tryd.prog (Instr.indexAt 112 (.slice (some ⟨B, 0, none⟩) W W) (.int .i64 (k : Int))) W0 = .ok (.pointer (some ⟨B, j, none⟩)) W0 := fun W0 => by rw [hj]; go_simp
      obtain ⟨L, hL⟩ : ∃ L, kk.left.length = L := ⟨_, rfl⟩
      rw [hL] at c0
      obtain ⟨st, hst⟩ : ∃ s, kk.st = s := ⟨_, rfl⟩
      rw [hst] at c1
      obtain ⟨gn, hgn⟩ : ∃ s, kk.got.length = s := ⟨_, rfl⟩
      rw [hgn] at c2
      have HL2 := Lib.hid hL
      have hnew := Box.new wr 142 [.slice a L c, .int .i64 (st : Int), .slice ga gn gc]
      simp only [List.toArray] at hnew
      obtain ⟨_, _, _, _, _, _⟩ := hnew.three
      have hwl : wr.heap.size < (wr.alloc (.cells #[.slice a L c, .int .i64 (st : Int), .slice ga gn gc] 142)).heap.size := by simp
      have hown2 := hown.alloc (.cells #[.slice a L c, .int .i64 (st : Int), .slice ga gn gc] 142)
      have hcl : ∃ v0, (wr.alloc (.cells #[.slice a L c, .int .i64 (st : Int), .slice ga gn gc] 142)).cell? ⟨w.heap.size, k, none⟩ = some v0 := by
        refine ⟨_, (hown2.cellAt k (by omega)).trans (List.getElem?_eq_getElem (by have := HL.out; simp; omega))⟩
      obtain ⟨v0, hcl⟩ := hcl
      have hfl := hown2.frozenAt k
      have hwl2 : w.heap.size < (wr.alloc (.cells #[.slice a L c, .int .i64 (st : Int), .slice ga gn gc] 142)).heap.size := by omega
      have HGN : Hid (TG (wr.alloc (.cells #[.slice a L c, .int .i64 (st : Int), .slice ga gn gc] 142)) n room W lo hi e0 G B M H kv gs g) := HGR.out.below ((Below.refl _ _).alloc (Nat.le_refl _) _)
      have HBN : Hid (Below w.heap.size w (wr.alloc (.cells #[.slice a L c, .int .i64 (st : Int), .slice ga gn gc] 142))) := hb.alloc (by omega) _
      have HOW2 := Lib.hid hown2
      clear hown hb hown2 hgr hkk hg hcap hsl hcell hnew hj hst hgn hL
      by_cases h0 : L = 0
      · have hf : l.getD k false = false := by
          rw [hen]
          have : kk.left = [] := List.eq_nil_of_length_eq_zero (by have := HL2.out; omega)
          unfold Tg.enW; rw [this]
        have hnew := (HOW.out.stored k (.bool (l.getD k false))).1
        rw [← HL.out, bools_upd l k (by rw [HL.out]; exact hlt), HL.out, hf] at hnew
        have HNEW := Lib.hid hnew
        have hd : decide ((0 : Int) < (L : Int)) = false := decide_eq_false (by omega)
        have hd2 : decide (0 < L) = false := decide_eq_false (by omega)
        clear hnew hf hen h0
        go_wp2_with fail
        go_roundw
        case rel => exact ⟨k + 1, by omega, by go_num, HNEW.out.alloc _, (HB.out.setCell (p := ⟨w.heap.size, k, none⟩) (Nat.le_refl _) _).alloc (by simp; omega) _⟩
        case measure => simp [intOf]; omega
      · obtain ⟨q, ql, hql⟩ : ∃ q ql, kk.left = q :: ql := by
          cases hq : kk.left with
          | nil => have := HL2.out; rw [hq] at this; exact absurd this.symm h0
          | cons q ql => exact ⟨q, ql, rfl⟩
        obtain ⟨r, hr⟩ : ∃ r, (decide (kk.st = 0) && g.locked (sg n) (sg n q)) = r := ⟨_, rfl⟩
        have hf : l.getD k false = !r := by
          rw [hen, ← hr]
          unfold Tg.enW; rw [hql]
          by_cases hs : kk.st = 0
          · simp [hs]
          · simp [hs]
        have HWT := Lib.hid (waits_w _ n room W lo hi e0 G B M H kv gs g HGN.out k kk q ql HKK.out hql hW r hr)
        have hd : decide ((0 : Int) < (L : Int)) = true := decide_eq_true (by omega)
        have hd2 : decide (0 < L) = true := decide_eq_true (by omega)
        clear hen hr hql
        have HF := Lib.hid hf
        clear hf
        go_wp2_with fail
        refine (HWT.out).mono ?_
        rintro e wz ⟨rfl, hbz⟩
        have hoz := ownsRow_below HOW2.out hbz
        obtain ⟨v9, hc9⟩ : ∃ v0, wz.cell? ⟨w.heap.size, k, none⟩ = some v0 := ⟨_, (hoz.cellAt k (by omega)).trans (List.getElem?_eq_getElem (by have := HL.out; simp; omega))⟩
        have hf9 := hoz.frozenAt k
        have hz9 : w.heap.size < wz.heap.size := Nat.lt_of_lt_of_le hwl2 hbz.size
        have HOZ := Lib.hid hoz
        clear hoz
        go_wp2_with fail
        have hnew := (HOZ.out.stored k (.bool (l.getD k false))).1
        rw [← HL.out, bools_upd l k (by rw [HL.out]; exact hlt), HL.out, HF.out] at hnew
        have HNEW := Lib.hid hnew
        clear hnew
        go_roundw
        case rel => exact ⟨k + 1, by omega, by go_num, HNEW.out, ((HBN.out.trans (hbz.mono (by omega))).setCell (Nat.le_refl _) _)⟩
        case measure => simp [intOf]; omega
    · obtain rfl : k = W := by omega
      go_wp2_with fail
      go_ret
      have e : l.take k ++ List.replicate (k - k) false = l := by rw [← HL.out]; simp
      rw [e] at hown
      obtain ⟨a1, c1, h1, h2⟩ := RowF.of_owns (f := Value.bool) (d := false) (xs := l) (by rw [HL.out]; exact hown)
      rw [HL.out] at h1 h2
      exact ⟨_, _, by rw [← h1]; rfl, h2, hb⟩

end Go.Proofs.YthhcchdjeeigpaaDoor
