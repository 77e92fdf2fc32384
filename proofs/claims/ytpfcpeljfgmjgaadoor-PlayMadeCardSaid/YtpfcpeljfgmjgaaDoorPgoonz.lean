/- Contract of package play's goOn. -/
import Derived.Test.YtpfcpeljfgmjgaaDoorPendz
import Derived.Deep.RegionWith
namespace Go.Proofs.YtpfcpeljfgmjgaaDoor
open Go.RowKit
set_option linter.unusedVariables false
set_option linter.unusedSimpArgs false

theorem PG.congr {w : World} {lo hi C e0 G B gb cu : Nat} {ev psl : Value} {n : Nat} {g g' : Gm} (h : PG w lo hi C e0 G B gb cu ev psl n g) (h1 : g'.up = g.up) (h2 : g'.ws = g.ws) (h3 : g'.l = g.l) (h4 : g'.tm = g.tm) : PG w lo hi C e0 G B gb cu ev psl n g' := by
  obtain ⟨up, ws, l, tm, last⟩ := g
  obtain ⟨up', ws', l', tm', last'⟩ := g'
  dsimp only at h1 h2 h3 h4
  subst h1 h2 h3 h4
  exact ⟨h.box, h.up, h.rows, h.evs, h.gl, h.bl, h.lh, h.hc, h.ce, h.es, h.gB, h.ug, h.ub, h.uC, h.ue, h.w64⟩
/-- Time goes on. -/
theorem PG.tick {w : World} {lo hi C e0 G B gb cu : Nat} {ev psl : Value} {n : Nat} {g : Gm} (h : PG w lo hi C e0 G B gb cu ev psl n g) : PG (w.setCell ⟨G, 6, none⟩ (.int .i64 ((g.tm + 1 : Nat) : Int))) lo hi C e0 G B gb cu ev psl n { g with tm := g.tm + 1 } := by
  have ht : Two G G w (w.setCell ⟨G, 6, none⟩ (.int .i64 ((g.tm + 1 : Nat) : Int))) := (Two.refl G G w).set G 6 (.inl rfl) _
  refine h.upd (ht.wide (.inl rfl)) (h.box.set 6 _) (h.rows.agree (fun b hb => ?_) ht.size) rfl rfl rfl
  have h0 : b ≠ G := by have := h.gl; have := h.gB; rcases hb with rfl | hb <;> omega
  exact Below.heap_setCell w ⟨G, 6, none⟩ _ b h0
/-- A worker's row is another one. -/
theorem PG.row {w w' : World} {lo hi C e0 G B gb cu : Nat} {ev psl : Value} {n : Nat} {g : Gm} {i : Nat} {k : Wk} (h : PG w lo hi C e0 G B gb cu ev psl n g) (ht : Two B B w w') (hr : WRow lo hi w' B (g.ws.set i k))
    (hw : waits (g.ws.set i k) = waits g.ws) (hu : unders (g.ws.set i k) = unders g.ws) : PG w' lo hi C e0 G B gb cu ev psl n { g with ws := g.ws.set i k } := by
  refine h.upd (ht.wide (.inr rfl)) ?_ hr rfl rfl (by simp)
  show Box _ _ _ [_, _, .slice _ (g.ws.set i k).length (g.ws.set i k).length, .int .u64 (wd (waits (g.ws.set i k)) : Nat), .int .u64 (wd (unders (g.ws.set i k)) : Nat), _, _]
  rw [hw, hu, List.length_set]
  exact ht.box h.box h.gB h.gB
/-- Cells are others, in memory of their own. -/
theorem PG.ups {w w6 : World} {lo hi C e0 G B gb cu : Nat} {ev psl : Value} {n : Nat} {g : Gm} {g6 c6 : Nat} {up : List Nat} (h : PG w lo hi C e0 G B gb cu ev psl n g) (hb : Below w.heap.size w w6) (hg : w.heap.size ≤ g6) (ho : Own w6 g6 up) :
    PG (w6.setCell ⟨G, 1, none⟩ (.slice (some ⟨g6, 0, none⟩) n c6)) lo hi C e0 G B g6 c6 ev psl n { g with up := up } := by
  have hG := h.box.lt
  have hgl := h.gl
  have hbl := h.bl
  have hlh := h.lh
  have hhc := h.hc
  have hce := h.ce
  have hes := h.es
  have hB : B < w.heap.size := by obtain ⟨cs, h1, _⟩ := h.rows; exact h1.1
  have hs := hb.size
  have hblk : ∀ b, b < w.heap.size → b ≠ G → (w6.setCell ⟨G, 1, none⟩ (.slice (some ⟨g6, 0, none⟩) n c6)).heap[b]? = w.heap[b]? := fun b h1 h2 => by
    rw [Below.heap_setCell _ ⟨G, 1, none⟩ _ b h2, hb.block b h1]
  refine ⟨(h.box.below hb).set 1 _, ho.setOther (a := ⟨G, 1, none⟩) (by show g6 ≠ G; omega) _, h.rows.agree (fun b hb' => hblk b (by rcases hb' with rfl | h' <;> omega) (by have := h.gB; rcases hb' with rfl | h' <;> omega)) (by simp; omega), ownsRow_agree h.evs fun q hq => hblk q (h.evs.lt q hq).2 (by have := (h.evs.lt q hq).1; omega), hgl, hbl, hlh, hhc, hce, by simp; omega, h.gB, by omega, by omega, by omega, fun q hq => by have := (h.evs.lt q hq).2; omega, h.w64⟩

theorem st_seven {n : Nat} {pr : List Int} {up : List Nat} {t : Tk} (I : Inv n pr up t) (hd : t.dn = false) (h : (tks up pr t).st = 7) : t.st = 4 ∨ t.st = 5 ∨ t.st = 7 := by
  have hst : t.st = 1 ∨ t.st = 2 ∨ t.st = 3 ∨ t.st = 4 ∨ t.st = 5 ∨ t.st = 6 ∨ t.st = 7 ∨ t.st = 8 := by have := I.s1; have := I.s8; omega
  obtain ⟨k, x, y, st, u, v, w, r, dn, res⟩ := t
  dsimp only at hd hst ⊢
  subst hd
  rcases hst with rfl | rfl | rfl | rfl | rfl | rfl | rfl | rfl
  · by_cases e : el up u = u <;> by_cases hk : k = 1 <;> simp [tks, e, Tk.fst, hk, Tk.fin] at h
  · by_cases e : el up w = w <;> by_cases hk : k = 1 <;> simp [tks, e, Tk.fst, hk, Tk.fin] at h
  · simp [tks] at h
  · exact .inl rfl
  · exact .inr (.inl rfl)
  · simp [tks] at h
  · exact .inr (.inr rfl)
  · by_cases hb : bel pr u v <;> by_cases e : el up u = u <;> by_cases e2 : el up v = v <;> simp [tks, hb, e, e2, Tk.fin] at h

theorem waits_same {ws : List Wk} {i : Nat} {k k' : Wk} (h : ws[i]? = some k) (hl : k'.left = k.left) : waits (ws.set i k') = waits ws := by
  rw [waits_set]; exact set_same (by unfold waits; rw [List.getElem?_map, h, hl]; rfl)
theorem unders_same {ws : List Wk} {i : Nat} {k k' : Wk} (h : ws[i]? = some k) (hl : k'.on = k.on) : unders (ws.set i k') = unders ws := by
  rw [unders_set]; exact set_same (by unfold unders; rw [List.getElem?_map, h, hl]; rfl)
theorem Rest.below {lo hi B : Nat} {w w' : World} {rv : Value} {os : List Opn} (h : Rest lo hi w rv os) (hb : Below B w w') (hh : hi ≤ B) : Rest lo hi w' rv os := h.agree fun b _ h2 => hb.block b (by omega)

/-- Behind a step, and its two stores. -/
theorem after_step {wc w6 : World} {lo hi C e0 G B gb cu : Nat} {ev psl : Value} {n : Nat} {g : Gm} {i g6 c6 : Nat} {lf : List Opn} {on' : Bool} {t T : Tk} {y : Int} {bg mt : Nat} {U : List Nat} {rv : Value}
    (H : PG wc lo hi C e0 G B gb cu ev psl n g) (hk : g.ws[i]? = some ⟨lf, on', t, y, bg, mt⟩) (hp : WPart lo hi w6 B i g.ws (wcell ⟨lf, on', t, y, bg, mt⟩ rv)) (hr : Rest lo hi wc rv lf) (ho : Own w6 g6 U) (hg : wc.heap.size ≤ g6) (hb : Below wc.heap.size wc w6) :
    PG (((((((((((w6.setCell ⟨G, 1, none⟩ (.slice (some ⟨g6, 0, none⟩) n c6)).setCell ⟨B, i * 13 + 1, none⟩ (.int .i64 (T.k : Int))).setCell ⟨B, i * 13 + 2, none⟩ (.int .i64 (T.x : Int))).setCell ⟨B, i * 13 + 3, none⟩ (.int .i64 y)).setCell ⟨B, i * 13 + 4, none⟩ (.int .i64 (T.st : Int))).setCell ⟨B, i * 13 + 5, none⟩ (.int .i64 (T.u : Int))).setCell ⟨B, i * 13 + 6, none⟩ (.int .i64 (tV T y))).setCell ⟨B, i * 13 + 7, none⟩ (.int .i64 (T.w : Int))).setCell ⟨B, i * 13 + 8, none⟩ (.int .i64 (T.r : Int))).setCell ⟨B, i * 13 + 9, none⟩ (.bool T.dn)).setCell ⟨B, i * 13 + 10, none⟩ (.int .i64 (T.res : Int))) lo hi C e0 G B g6 c6 ev psl n { g with up := U, ws := g.ws.set i ⟨lf, on', T, y, bg, mt⟩ } ∧ Chg e0 G B wc (((((((((((w6.setCell ⟨G, 1, none⟩ (.slice (some ⟨g6, 0, none⟩) n c6)).setCell ⟨B, i * 13 + 1, none⟩ (.int .i64 (T.k : Int))).setCell ⟨B, i * 13 + 2, none⟩ (.int .i64 (T.x : Int))).setCell ⟨B, i * 13 + 3, none⟩ (.int .i64 y)).setCell ⟨B, i * 13 + 4, none⟩ (.int .i64 (T.st : Int))).setCell ⟨B, i * 13 + 5, none⟩ (.int .i64 (T.u : Int))).setCell ⟨B, i * 13 + 6, none⟩ (.int .i64 (tV T y))).setCell ⟨B, i * 13 + 7, none⟩ (.int .i64 (T.w : Int))).setCell ⟨B, i * 13 + 8, none⟩ (.int .i64 (T.r : Int))).setCell ⟨B, i * 13 + 9, none⟩ (.bool T.dn)).setCell ⟨B, i * 13 + 10, none⟩ (.int .i64 (T.res : Int))) := by
  have Ha := H.ups (c6 := c6) hb hg ho
  have hs := hb.size
  have es := H.es
  have hp0 := hp.agree (w' := w6.setCell ⟨G, 1, none⟩ (.slice (some ⟨g6, 0, none⟩) n c6)) (fun b hb' => Below.heap_setCell w6 ⟨G, 1, none⟩ _ b (by show b ≠ G; have := H.gB; have := H.gl; rcases hb' with rfl | h' <;> omega)) (by simp)
  have hc1 : Chg e0 G B wc (w6.setCell ⟨G, 1, none⟩ (.slice (some ⟨g6, 0, none⟩) n c6)) := (Chg.of_below hb es).trans (Chg.of_two (((Two.refl G G w6).set G 1 (.inl rfl) _).wide (.inl rfl)) (by omega))
  have hra : Rest lo hi (w6.setCell ⟨G, 1, none⟩ (.slice (some ⟨g6, 0, none⟩) n c6)) rv lf := hr.agree fun b h1 h2 => hc1.block b (by have := H.hc; have := H.ce; omega) (by have := H.gl; omega) (by have := H.bl; omega)
  generalize w6.setCell ⟨G, 1, none⟩ (.slice (some ⟨g6, 0, none⟩) n c6) = wa at *
  have ht := (((((((((((Two.refl B B wa).set B (i * 13 + 1) (.inl rfl) (.int .i64 (T.k : Int))).set B (i * 13 + 2) (.inl rfl) (.int .i64 (T.x : Int))).set B (i * 13 + 3) (.inl rfl) (.int .i64 y)).set B (i * 13 + 4) (.inl rfl) (.int .i64 (T.st : Int))).set B (i * 13 + 5) (.inl rfl) (.int .i64 (T.u : Int))).set B (i * 13 + 6) (.inl rfl) (.int .i64 (tV T y))).set B (i * 13 + 7) (.inl rfl) (.int .i64 (T.w : Int))).set B (i * 13 + 8) (.inl rfl) (.int .i64 (T.r : Int))).set B (i * 13 + 9) (.inl rfl) (.bool T.dn)).set B (i * 13 + 10) (.inl rfl) (.int .i64 (T.res : Int)))
  have hq := ((((((((((hp0.put (j := 1) (.inl H.bl) (by omega) (.int .i64 (T.k : Int))).put (j := 2) (.inl H.bl) (by omega) (.int .i64 (T.x : Int))).put (j := 3) (.inl H.bl) (by omega) (.int .i64 y)).put (j := 4) (.inl H.bl) (by omega) (.int .i64 (T.st : Int))).put (j := 5) (.inl H.bl) (by omega) (.int .i64 (T.u : Int))).put (j := 6) (.inl H.bl) (by omega) (.int .i64 (tV T y))).put (j := 7) (.inl H.bl) (by omega) (.int .i64 (T.w : Int))).put (j := 8) (.inl H.bl) (by omega) (.int .i64 (T.r : Int))).put (j := 9) (.inl H.bl) (by omega) (.bool T.dn)).put (j := 10) (.inl H.bl) (by omega) (.int .i64 (T.res : Int)))
  have hsa := hc1.size
  refine ⟨Ha.row ht ?_ (waits_same hk rfl) (unders_same hk rfl), hc1.trans (Chg.of_two (ht.wide (.inr rfl)) (by omega))⟩
  exact hq.row (k := ⟨lf, on', T, y, bg, mt⟩) (rv := rv) rfl (hra.agree fun b h1 h2 => ht.block b (by have := H.hc; have := H.ce; omega) (by have := H.bl; omega) (by have := H.bl; omega))

set_option maxRecDepth 100000 in
set_option maxHeartbeats 8000000 in
theorem goon_w (w : World) (lo hi C e0 G B gb cu : Nat) (ev : Value) (a : Option Addr) (ca : Nat) (n : Nat) (pr : List Int) (g : Gm) (i : Nat) {l2 h2 : Nat} (H : PG w lo hi C e0 G B gb cu ev (.slice a n ca) n g) (GI : GInv n pr g) (W : Went n pr g i) (he : (g.wk i).en = true)
    (hpr : Row l2 h2 w a n pr) (hh1 : h2 ≤ G) (hh2 : h2 ≤ B) (hn : n ≤ 4096) (hl : g.l.length ≤ 1000000) (htm : g.tm ≤ 1000000000000) :
    Calls Tryd.prog 41 #[.pointer (some ⟨G, 0, none⟩), .int .i64 (i : Int)] w fun e w' => e = .returned (.tuple #[]) ∧ ∃ gb' cu' ev', PG w' lo hi C e0 G B gb' cu' ev' (.slice a n ca) n (adv pr g i) ∧ Chg e0 G B w w' := by
  have hG := H.box.lt
  have hB : B < w.heap.size := by obtain ⟨cs, h1, _⟩ := H.rows; exact h1.1
  have hi' := W.lt
  have H1 := H.tick
  have hc1 : Chg e0 G B w (w.setCell ⟨G, 6, none⟩ (.int .i64 ((g.tm + 1 : Nat) : Int))) := Chg.of_two (((Two.refl G G w).set G 6 (.inl rfl) _).wide (.inl rfl)) H.es
  have hbx := H.box
  obtain ⟨un, hun⟩ : ∃ x, wd (unders g.ws) = x := ⟨_, rfl⟩
  obtain ⟨on, hon⟩ : ∃ x, (g.wk i).on = x := ⟨_, rfl⟩
  have HHAS : Hid (∀ w0, Calls Tryd.prog 71 #[.int .u64 (un : Int), .int .i64 (i : Int)] w0 fun e w' => e = .returned (.bool on) ∧ w0 = w') := fun w0 => by
    have := has_any (unders g.ws) i w0 (by rw [unders_length]; exact H.w64) (by have := H.w64; omega)
    rw [hun] at this
    have e1 : (unders g.ws).getD i false = on := by
      unfold unders
      rw [List.getD_eq_getElem?_getD, List.getElem?_map, Gm.wk_get hi', Option.map_some, hon]; rfl
    rwa [e1] at this
  rw [hun] at hbx
  have t1 : ((g.tm + 1 : Nat) : Int) = (g.tm : Int) + 1 := by omega
  rw [t1] at H1 hc1
  have hbx1 := hbx.set 6 (.int .i64 ((g.tm : Int) + 1))
  obtain ⟨_, _, _, _, _, _, _⟩ := hbx.seven
  have f6 := hbx.frozen 6
  have HH1 := Lib.hid H1
  have HC1 := Lib.hid hc1
  have HHI := Lib.hid H
  have HW := Lib.hid W
  have HGI := Lib.hid GI
  have HPR := Lib.hid hpr
  have HHE := Lib.hid he
  have HUN := Lib.hid hun
  have HON := Lib.hid hon
  have HBX1 := Lib.hid hbx1
  clear H H1 hc1 W GI hpr he hun hon t1 hbx1 hbx
  go_enter Tryd.func41, Tryd.ntmps41
  go_upto_region 1 with fail
  generalize hw1 : w.setCell ⟨G, 6, none⟩ (.int .i64 ((g.tm : Int) + 1)) = w1 at *
  have hG1 := HBX1.out.lt
  have c4 := HBX1.out.cell 4
  simp only [List.set_cons_succ, List.set_cons_zero, List.getElem?_cons_zero, List.getElem?_cons_succ] at c4
  clear hw1
  go_upto_if 19 with (first | (go_at_call 71; (with_reducible refine (HHAS.out _).mono ?_); rintro e w' ⟨rfl, rfl⟩))
  go_cut [] from 6 to 22 (fun wx => Hid (PG wx lo hi C e0 G B gb cu ev (.slice a n ca) n { g with ws := g.ws.set i (g.bg i), tm := g.tm + 1 }) ∧ Hid (Two G B w1 wx))
  case first =>
    cases hv : on with
    | true =>
      rw [hv] at HON
      have hbg : g.bg i = g.wk i := by unfold Gm.bg Wk.beg; rw [if_pos HON.out]
      have hset : g.ws.set i (g.bg i) = g.ws := by rw [hbg]; exact set_same (Gm.wk_get hi')
      have HSET := Lib.hid hset
      clear hbg hset
      go_wp2_with fail
      go_meet
      rw [HSET.out]
      exact ⟨HH1.out, Two.refl _ _ _⟩
    | false =>
      rw [hv] at HON
      cases hleft : (g.wk i).left with
      | nil =>
        have := HHE.out
        unfold Wk.en at this
        rw [HON.out, hleft] at this
        cases this
      | cons o r =>
        have hok : o.ok n := (HGI.out.ok _ (Gm.wk_mem hi')).l o (by rw [hleft]; simp)
        have HB := Lib.hid (begin_w w1 lo hi C e0 G B gb cu ev (.slice a n ca) n { g with tm := g.tm + 1 } i o r HH1.out hi' HON.out hleft hok)
        clear hleft hok
        go_wp2_with (first | (go_at_call 72; (with_reducible refine (HB.out).mono ?_); rintro e w2 ⟨rfl, hp2, ht2⟩))
        go_meet
        exact ⟨hp2, ht2⟩
  case rest =>
  obtain ⟨HP2, HT2⟩ := hcut
  have es := HP2.out.es
  have hCH2 : Hid (Chg e0 G B w wc) := HC1.out.trans (Chg.of_two HT2.out HC1.out.size |> fun h => by first | exact h | exact Chg.of_two HT2.out (Nat.le_trans HHI.out.es HC1.out.size))
  have hbC : Hid (Row l2 h2 wc a n pr) := HPR.out.agree fun k _ hk => hCH2.out.block k (by have := HHI.out.gl; have := HHI.out.lh; have := HHI.out.hc; have := HHI.out.ce; omega) (by omega) (by omega)
  obtain ⟨b, hb⟩ : ∃ b, g.bg i = b := ⟨_, rfl⟩
  rw [hb] at HP2
  have WI := HW.out.I
  have Wb := HW.out.b
  have Won := HW.out.on
  have Wnd := HW.out.nd
  rw [hb] at WI Wb Won Wnd
  have hlen2 : (g.ws.set i b).length = g.ws.length := by simp
  have hk2 : (g.ws.set i b)[i]? = some b := by rw [List.getElem?_set_self hi']
  obtain ⟨a2, c2, hcap2, hsl2, hpart⟩ := HP2.out.rows.part hk2
  obtain ⟨j, hj⟩ : ∃ j, j = i * 13 := ⟨_, rfl⟩
  obtain ⟨lf, on', t, y, bg, mt⟩ := b
  dsimp only at WI Wnd Won hcap2 hsl2
  have Wy : t.k ≠ 1 → y = (t.y : Int) := fun h => Wb.y Won h
  obtain ⟨V, hV⟩ : ∃ V, tV t y = V := ⟨_, rfl⟩
  obtain ⟨T, hT⟩ : ∃ T, tks g.up pr t = T := ⟨_, rfl⟩
  obtain ⟨V', hV'⟩ : ∃ V, tV T y = V := ⟨_, rfl⟩
  obtain ⟨U, hU⟩ : ∃ U, ups g.up pr t = U := ⟨_, rfl⟩
  have d1 := hpart.cell 1 _ rfl
  have d2 := hpart.cell 2 _ rfl
  have d3 := hpart.cell 3 _ rfl
  have d4 := hpart.cell 4 _ rfl
  have d5 := hpart.cell 5 _ rfl
  have d6 := hpart.cell 6 _ rfl
  have d7 := hpart.cell 7 _ rfl
  have d8 := hpart.cell 8 _ rfl
  have d9 := hpart.cell 9 _ rfl
  have d10 := hpart.cell 10 _ rfl
  rw [← hj] at d1 d2 d3 d4 d5 d6 d7 d8 d9 d10
  rw [hV] at d6
  obtain ⟨d1, f1⟩ := d1
  obtain ⟨d2, f2⟩ := d2
  obtain ⟨d3, f3⟩ := d3
  obtain ⟨d4, f4⟩ := d4
  obtain ⟨d5, f5⟩ := d5
  obtain ⟨d6, f6'⟩ := d6
  obtain ⟨d7, f7⟩ := d7
  obtain ⟨d8, f8⟩ := d8
  obtain ⟨d9, f9⟩ := d9
  obtain ⟨d10, f10⟩ := d10
  obtain ⟨W0, hW0⟩ : ∃ W0, g.ws.length = W0 := ⟨_, rfl⟩
  have hbx2 := HP2.out.box
  have hup2 := HP2.out.up
  dsimp only at hbx2 hup2
  rw [hlen2, hW0] at hbx2
  have q0 := hbx2.cell 0
  have q1 := hbx2.cell 1
  have q2 := hbx2.cell 2
  have q6 := hbx2.cell 6
  have p1 := hbx2.frozen 1
  simp only [List.getElem?_cons_zero, List.getElem?_cons_succ] at q0 q1 q2 q6
  have hGc := hbx2.lt
  have hBc : B < wc.heap.size := by have := HT2.out.size; have := HC1.out.size; omega
  have hiW : i < W0 := by omega
  have hi0 : (0 : Int) ≤ (i : Int) := by omega
  have hi1 : (i : Int) < (W0 : Int) := by omega
  have T2 : ∀ W, Sem.run Tryd.prog (Instr.indexAt 73 (.slice (some ⟨B, 0, none⟩) W0 W0) (.int .i64 (i : Int))) W = .ok (.pointer (some ⟨B, j, none⟩)) W := fun W => by rw [hj]; go_simp
  have hst : Calls Tryd.prog 73 #[.slice (some ⟨gb, 0, none⟩) n cu, .slice a n ca, .agg #[.int .i64 (t.k : Int), .int .i64 (t.x : Int), .int .i64 y, .int .i64 (t.st : Int), .int .i64 (t.u : Int), .int .i64 V, .int .i64 (t.w : Int), .int .i64 (t.r : Int), .bool t.dn, .int .i64 (t.res : Int)]] wc.drew fun e w' =>
      ∃ g6 c6, e = .returned (.tuple #[.slice (some ⟨g6, 0, none⟩) n c6, .agg #[.int .i64 (T.k : Int), .int .i64 (T.x : Int), .int .i64 y, .int .i64 (T.st : Int), .int .i64 (T.u : Int), .int .i64 V', .int .i64 (T.w : Int), .int .i64 (T.r : Int), .bool T.dn, .int .i64 (T.res : Int)]]) ∧ wc.heap.size ≤ g6 ∧ Own w' g6 U ∧ Below wc.heap.size wc w' := by
    subst hV hV' hT hU
    refine (gstep_any (some ⟨gb, 0, none⟩) a n cu ca pr g.up t y wc.drew WI Wy ((hup2.drew1).row (lo := 0) (hi := wc.heap.size) HGI.out.F.len (Nat.zero_le _) hup2.1) (Nat.le_refl _) hbC.out.drew (by have := HT2.out.size; have := HC1.out.size; show h2 ≤ wc.heap.size; omega) (by omega) Wnd).mono ?_
    rintro e w' ⟨g6, c6, h1, h2, h3, h4⟩
    exact ⟨g6, c6, h1, h2, h3, (Below.refl wc.heap.size wc).drew.trans h4⟩
  have hsv : T.st = 7 → t.st = 4 ∨ t.st = 5 ∨ t.st = 7 := fun h => by rw [← hT] at h; exact st_seven WI Wnd h
  have HSV := Lib.hid hsv
  clear hsv
  have HST := Lib.hid hst
  have HPT := Lib.hid hpart
  have HJ := Lib.hid hj
  have HBG := Lib.hid hb
  have HTT := Lib.hid hT
  have HVV := Lib.hid hV'
  have HUU := Lib.hid hU
  have HSL := Lib.hid hsl2
  have HCP := Lib.hid hcap2
  have HWW := Lib.hid hW0
  have gB := HHI.out.gB
  have gB' := Ne.symm gB
  have HWN := Lib.hid Won
  have HK2 := Lib.hid hk2
  clear hst hpart hj hb hT hV' hU hsl2 hcap2 hW0 hk2 hlen2 hbx2 hup2 Wb Won Wnd Wy WI hV c4 hG1
  go_upto_region 5 with fail
  go_cut [] from 34 to 55 (fun wx => ∃ g6 c6, Hid (PG wx lo hi C e0 G B g6 c6 ev (.slice a n ca) n { g with up := U, ws := (g.ws.set i ⟨lf, on', t, y, bg, mt⟩).set i ⟨lf, on', T, y, bg, mt⟩, tm := g.tm + 1 }) ∧ Hid (Chg e0 G B wc wx))
  case first =>
    go_region_with (first | (go_at_call 73; go_loud ((with_reducible refine (HST.out).mono ?_); rintro e w6 ⟨g6, c6, rfl, hg6, ho6, hb6⟩; have hx6 := HP2.out.box.below hb6; have hx7 := hx6.frozen 1; have hpt6 := HPT.out.agree (w' := w6) (fun b hb' => hb6.block b (by show b < wc.heap.size; have := HHI.out.bl; have := HHI.out.lh; have := HHI.out.hc; have := HHI.out.ce; rcases hb' with rfl | h' <;> omega)) hb6.size; have y1 := hx6.cell 1; simp only [List.getElem?_cons_zero, List.getElem?_cons_succ] at y1; have yl := hx6.lt; have yb : B < w6.heap.size := (by have := hb6.size; omega); have z1 := hpt6.cell 1 _ rfl; have z2 := hpt6.cell 2 _ rfl; have z3 := hpt6.cell 3 _ rfl; have z4 := hpt6.cell 4 _ rfl; have z5 := hpt6.cell 5 _ rfl; have z6 := hpt6.cell 6 _ rfl; have z7 := hpt6.cell 7 _ rfl; have z8 := hpt6.cell 8 _ rfl; have z9 := hpt6.cell 9 _ rfl; have z10 := hpt6.cell 10 _ rfl; rw [← HJ.out] at z1 z2 z3 z4 z5 z6 z7 z8 z9 z10; obtain ⟨_, _⟩ := z1; obtain ⟨_, _⟩ := z2; obtain ⟨_, _⟩ := z3; obtain ⟨_, _⟩ := z4; obtain ⟨_, _⟩ := z5; obtain ⟨_, _⟩ := z6; obtain ⟨_, _⟩ := z7; obtain ⟨_, _⟩ := z8; obtain ⟨_, _⟩ := z9; obtain ⟨_, _⟩ := z10; have HO6 := Lib.hid ho6; have HB6 := Lib.hid hb6; have HP6 := Lib.hid hpt6; clear ho6 hb6 hpt6 hx6)))
    all_goals (go_wp2_with fail; go_meet)
    all_goals (rw [HJ.out, ← HVV.out]; exact ⟨g6, c6, after_step HP2.out HK2.out HP6.out ⟨a2, c2, rfl, HCP.out, HSL.out⟩ HO6.out hg6 HB6.out⟩)
  case rest =>
  obtain ⟨g6, c6, HP3, HC3⟩ := hcut
  have hk3 : ((g.ws.set i ⟨lf, on', t, y, bg, mt⟩).set i ⟨lf, on', T, y, bg, mt⟩)[i]? = some ⟨lf, on', T, y, bg, mt⟩ := by rw [List.getElem?_set_self (by simpa using hi')]
  obtain ⟨a3, c3, hcap3, hsl3, hpart3⟩ := HP3.out.rows.part hk3
  have hlen3 : ((g.ws.set i ⟨lf, on', t, y, bg, mt⟩).set i ⟨lf, on', T, y, bg, mt⟩).length = g.ws.length := by simp
  have hbx3 := HP3.out.box
  dsimp only at hbx3 hcap3 hsl3
  have s3 := (hpart3.cell 4 _ rfl).1
  have s9 := (hpart3.cell 9 _ rfl).1
  have s12 := hpart3.cell 12 _ rfl
  rw [← HJ.out] at s3 s9 s12
  obtain ⟨s12, u12⟩ := s12
  have r6 := hbx3.cell 6
  simp only [List.getElem?_cons_zero, List.getElem?_cons_succ] at r6
  have r6' : ((g.tm + 1 : Nat) : Int) = (g.tm : Int) + 1 := by omega
  rw [r6'] at r6
  have hBz : B < wc.heap.size := by obtain ⟨cs, h1, _⟩ := HP3.out.rows; exact h1.1
  have hGz := hbx3.lt
  obtain ⟨mt', hmt⟩ : ∃ m, (if T.st = 7 ∧ t.st ≠ 7 then g.tm + 1 else mt) = m := ⟨_, rfl⟩
  obtain ⟨z, hz⟩ : ∃ z, decide (4 ≤ (t.st : Int) ∧ (t.st : Int) < 7 ∧ (T.st : Int) = 7) = z := ⟨_, rfl⟩
  have hzm : (z = true ∧ mt' = g.tm + 1) ∨ (z = false ∧ mt' = mt) := by
    have h7 := HSV.out
    by_cases h : T.st = 7 ∧ t.st ≠ 7
    · rw [if_pos h] at hmt
      have := h7 h.1
      exact .inl ⟨by rw [← hz]; exact decide_eq_true (by omega), hmt.symm⟩
    · rw [if_neg h] at hmt
      exact .inr ⟨by rw [← hz]; exact decide_eq_false (by omega), hmt.symm⟩
  have HSE : Hid (∀ w0, Calls Tryd.prog 74 #[.int .i64 (t.st : Int), .int .i64 (T.st : Int)] w0 fun e w' => e = .returned (.bool z) ∧ w0 = w') := fun w0 => by rw [← hz]; exact second_any _ _ w0
  have HZM := Lib.hid hzm
  have HMT := Lib.hid hmt
  have HPT3 := Lib.hid hpart3
  have HRE3 : Hid (Rest lo hi wc (.slice a3 lf.length c3) lf) := ⟨a3, c3, rfl, hcap3, hsl3⟩
  have HK3 := Lib.hid hk3
  have es3 := HP3.out.es
  clear hpart3 hbx3 hk3 hcap3 hsl3 hmt hz hzm r6' d1 d2 d3 d4 d5 d6 d7 d8 d9 d10 f1 f2 f3 f4 f5 f6' f7 f8 f9 f10 q0 q1 q2 q6 p1 HST HPT T2
  go_upto_if 62 with (first | (go_at_call 74; (with_reducible refine (HSE.out _).mono ?_); rintro e w' ⟨rfl, rfl⟩))
  go_cut [] from 56 to 69 (fun wx => Hid (PG wx lo hi C e0 G B g6 c6 ev (.slice a n ca) n { g with up := U, ws := ((g.ws.set i ⟨lf, on', t, y, bg, mt⟩).set i ⟨lf, on', T, y, bg, mt⟩).set i ⟨lf, on', T, y, bg, mt'⟩, tm := g.tm + 1 }) ∧ Hid (Two B B wc wx))
  case first =>
    rcases HZM.out with ⟨rfl, hm⟩ | ⟨rfl, hm⟩
    · subst hm
      go_wp2_with fail
      go_meet
      have ht : Two B B wc (wc.setCell ⟨B, j + 12, none⟩ (.int .i64 ((g.tm : Int) + 1))) := (Two.refl B B wc).set B (j + 12) (.inl rfl) _
      refine ⟨HP3.out.row ht ?_ (waits_same HK3.out rfl) (unders_same HK3.out rfl), ht⟩
      have hq := HPT3.out.put (j := 12) (.inl HP3.out.bl) (by omega) (.int .i64 ((g.tm + 1 : Nat) : Int))
      rw [← HJ.out] at hq
      exact hq.row (k := ⟨lf, on', T, y, bg, g.tm + 1⟩) (rv := .slice a3 lf.length c3) rfl (HRE3.out.agree fun b h1 h2 => Below.heap_setCell wc ⟨B, j + 12, none⟩ _ b (by show b ≠ B; have := HP3.out.bl; omega))
    · subst hm
      go_wp2_with fail
      go_meet
      rw [set_same HK3.out]
      exact ⟨HP3.out, Two.refl _ _ _⟩
  case rest =>
  obtain ⟨HP4, HT4⟩ := hcut
  have HC4 : Hid (Chg e0 G B w wc) := hCH2.out.trans (HC3.out.trans (Chg.of_two (HT4.out.wide (.inr rfl)) es3))
  have hk4 : (((g.ws.set i ⟨lf, on', t, y, bg, mt⟩).set i ⟨lf, on', T, y, bg, mt⟩).set i ⟨lf, on', T, y, bg, mt'⟩)[i]? = some ⟨lf, on', T, y, bg, mt'⟩ := by rw [List.getElem?_set_self (by simpa using hi')]
  obtain ⟨a4, c4', hcap4, hsl4, hpart4⟩ := HP4.out.rows.part hk4
  have v9 := (hpart4.cell 9 _ rfl).1
  rw [← HJ.out] at v9
  have hBy : B < wc.heap.size := by obtain ⟨cs, h1, _⟩ := HP4.out.rows; exact h1.1
  obtain ⟨pl, hpl⟩ : ∃ p, (if T.k = 2 ∧ T.res = 0 then mt' else g.tm + 1) = p := ⟨_, rfl⟩
  have HEND := Lib.hid (end_w wc lo hi C e0 G B g6 c6 ev (.slice a n ca) n { g with up := U, ws := ((g.ws.set i ⟨lf, on', t, y, bg, mt⟩).set i ⟨lf, on', T, y, bg, mt⟩).set i ⟨lf, on', T, y, bg, mt'⟩, tm := g.tm + 1 } i ⟨lf, on', T, y, bg, mt'⟩ HP4.out hk4 HWN.out hl pl hpl)
  have HPLL := Lib.hid hpl
  have hsp : g.sp pr i = ⟨lf, !T.dn, T, y, bg, mt'⟩ := by
    unfold Gm.sp Wk.step
    rw [HBG.out]
    dsimp only
    rw [HTT.out, HMT.out]
  have hup : (adv pr g i).up = U := by show ups g.up pr (g.bg i).t = U; rw [HBG.out]; exact HUU.out
  have HSP := Lib.hid hsp
  have HUP := Lib.hid hup
  clear hsl4 hpart4 hcap4 hk4 hpl hsp hup s3 s9 s12 u12 r6
  cases hdn : T.dn with
  | true =>
    rw [hdn] at v9
    have HDN := Lib.hid hdn
    clear hdn
    go_wp2_with (first | (go_at_call 75; (with_reducible refine (HEND.out).mono ?_); rintro e w5 ⟨rfl, ev', hp5, hc5⟩))
    go_end0
    refine ⟨rfl, g6, c6, ev', hp5.congr HUP.out ?_ ?_ rfl, HC4.out.trans hc5⟩
    · show g.ws.set i (g.sp pr i) = _
      rw [HSP.out, HDN.out]
      simp only [List.set_set, Bool.not_true]
    · show (if (g.sp pr i).t.dn then g.l ++ [evOf i (g.sp pr i) (g.tm + 1)] else g.l) = _
      rw [HSP.out]
      dsimp only
      rw [if_pos HDN.out]
      congr 1
      unfold evOf
      dsimp only
      rw [← HPLL.out]
      congr 1
      rw [Ev.eq_iff]
      refine ⟨rfl, rfl, rfl, rfl, rfl, rfl, ?_, rfl⟩
      dsimp only
      split <;> rfl
  | false =>
    rw [hdn] at v9
    have HDN := Lib.hid hdn
    clear hdn
    go_wp2_with fail
    go_end0
    refine ⟨rfl, ⟨g6, c6, ev, HP4.out.congr HUP.out ?_ ?_ rfl⟩, HC4.out⟩
    · show g.ws.set i (g.sp pr i) = _
      rw [HSP.out, HDN.out, show on' = true from HWN.out]
      simp only [List.set_set, Bool.not_false]
    · show (if (g.sp pr i).t.dn then g.l ++ [evOf i (g.sp pr i) (g.tm + 1)] else g.l) = _
      rw [HSP.out]
      dsimp only
      rw [if_neg (by rw [HDN.out]; simp)]

end Go.Proofs.YtpfcpeljfgmjgaaDoor
