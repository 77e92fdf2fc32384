/- Package wave: Levels. -/
import Derived.Test.YtdbjmonboecfgaaVc
namespace Go.Proofs.Ytdbjmonboecfgaa
open Go.RowKit Go.Maps
set_option linter.unusedVariables false
set_option linter.unusedSimpArgs false

/-- Memory in which Levels works. -/
structure LM (w1 wx : World) (B eb fo lo lb m : Nat) (vs : List Value) (P : PL) (D lv lf : List Nat) (dv : Value) : Prop where
  grd : Grd wx B (.slice (some ⟨fo, 0, none⟩) m m) vs (fromL m P)
  box : Box wx eb 42 [.slice (some ⟨fo, 0, none⟩) m m, .slice (some ⟨lo, 0, none⟩) m m]
  lef : Box wx lo 3 (intsOf lf)
  lev : Box wx lb 3 (intsOf lv)
  don : wx.ownsRow (lb + 1) 3 1 dv D.length (intsOf D)
  ap : ∀ i, i < m → ∀ q, (vg vs i).ownBlock = some q → q < eb ∧ q ≠ lo
  dis : lo ≠ fo ∧ lo < eb ∧ fo < eb ∧ eb < lb ∧ B ≤ lo
  bel : Below B w1 wx
section
variable {w1 wx w' : World} {B eb fo lo lb m : Nat} {vs : List Value} {P : PL} {D lv lf : List Nat} {dv : Value}
theorem LM.below (h : LM w1 wx B eb fo lo lb m vs P D lv lf dv) (hb : Below wx.heap.size wx w') : LM w1 w' B eb fo lo lb m vs P D lv lf dv :=
  ⟨h.grd.below hb, h.box.below hb, h.lef.below hb, h.lev.below hb, ownsRow_below h.don hb, h.ap, h.dis, h.bel.trans (hb.mono (by have := h.box.lt; have := h.dis; omega))⟩
theorem LM.drew (h : LM w1 wx B eb fo lo lb m vs P D lv lf dv) : LM w1 wx.drew B eb fo lo lb m vs P D lv lf dv := h.below (Below.refl _ _).drew
/-- A level is laid. -/
theorem LM.setLev (h : LM w1 wx B eb fo lo lb m vs P D lv lf dv) (i v : Nat) : LM w1 (wx.setCell ⟨lb, i, none⟩ (.int .i64 (v : Int))) B eb fo lo lb m vs P D (lv.set i v) lf dv := by
  obtain ⟨d1, d2, d3, d4, d5⟩ := h.dis
  refine ⟨h.grd.agree (fun q hq => Below.heap_setCell _ _ _ _ (show q ≠ lb from fun e => by cases hq; have e : fo = lb := e; omega)) (fun j hj q hq => Below.heap_setCell _ _ _ _ (show q ≠ lb from fun e => ?_)), h.box.setOther (show eb ≠ lb by omega) _, h.lef.setOther (show lo ≠ lb by omega) _, ?_, own_set h.don (fun q hq => by have := (ownsRow_lo h.don q hq).1; show q ≠ lb; omega) _, h.ap, h.dis, h.bel.setCell (p := ⟨lb, i, none⟩) (show B ≤ lb by omega) _⟩
  · rw [fromL_len] at hj
    have := (h.ap j hj q hq).1; omega
  · rw [← intsOf_set]; exact h.lev.set _ _
/-- What is left is laid. -/
theorem LM.setLef (h : LM w1 wx B eb fo lo lb m vs P D lv lf dv) (i v : Nat) : LM w1 (wx.setCell ⟨lo, i, none⟩ (.int .i64 (v : Int))) B eb fo lo lb m vs P D lv (lf.set i v) dv := by
  obtain ⟨d1, d2, d3, d4, d5⟩ := h.dis
  refine ⟨h.grd.agree (fun q hq => Below.heap_setCell _ _ _ _ (show q ≠ lo from fun e => by cases hq; have e : fo = lo := e; omega)) (fun j hj q hq => Below.heap_setCell _ _ _ _ (show q ≠ lo from fun e => ?_)), h.box.setOther (show eb ≠ lo by omega) _, ?_, h.lev.setOther (show lb ≠ lo by omega) _, own_set h.don (fun q hq => by have := (ownsRow_lo h.don q hq).1; show q ≠ lo; omega) _, h.ap, h.dis, h.bel.setCell (p := ⟨lo, i, none⟩) d5 _⟩
  · rw [fromL_len] at hj
    exact (h.ap j hj q hq).2 e
  · rw [← intsOf_set]; exact h.lef.set _ _
/-- One more is done. -/
theorem LM.done (h : LM w1 wx B eb fo lo lb m vs P D lv lf dv) {W W9 : World} (hW : Below wx.heap.size wx W) (hg : W.grownBy W9 dv.ownBlock) {v' : Value} {s : Nat} (ho : W9.ownsRow (lb + 1) 3 1 v' (D ++ [s]).length (intsOf (D ++ [s]))) : LM w1 W9 B eb fo lo lb m vs P (D ++ [s]) lv lf v' := by
  obtain ⟨d1, d2, d3, d4, d5⟩ := h.dis
  have hD := ownsRow_lo h.don
  have hlb := h.lev.lt
  have hk : ∀ q, q ≤ lb → W9.heap[q]? = wx.heap[q]? := fun q hq => by
    rw [hg.block q (by have := hW.size; omega) (fun e => by have := (hD q e.symm).1; omega), hW.block q (by omega)]
  refine ⟨h.grd.agree (fun q hq => by cases hq; exact hk fo (by omega)) (fun j hj q hq => hk q ?_), (hk eb (by omega)).trans h.box, (hk lo (by omega)).trans h.lef, (hk lb (Nat.le_refl _)).trans h.lev, ho, h.ap, h.dis, ?_⟩
  · rw [fromL_len] at hj
    have := (h.ap j hj q hq).1; omega
  · exact (h.bel.trans (hW.mono (by omega))).grown hg (by have := hW.size; omega) fun q hq => by have := (hD q hq).1; omega
/-- A row of those that lead to one. -/
theorem LM.row (h : LM w1 wx B eb fo lo lb m vs P D lv lf dv) {t : Nat} (ht : t < m) : ∃ a c, vg vs t = .slice a (fromR P t).length c ∧ wx.cell? ⟨fo, t, none⟩ = some (.slice a (fromR P t).length c) ∧ Row 0 eb wx a (fromR P t).length (fromR P t) := by
  have h1 := h.grd.row t (by rw [fromL_len]; exact ht)
  rw [fromL_row ht] at h1
  have hap := h.ap t ht
  obtain ⟨a, c, e, hr⟩ := RowF.of_owns (f := Value.int .i64) (d := (0 : Int)) h1
  refine ⟨a, c, e, ?_, ?_⟩
  · have hc := World.ownsRow.cells h.grd.own (g := fo) rfl t (vg vs t) (by simp [vg, List.getD, show t < vs.length by rw [h.grd.len, fromL_len]; exact ht])
    rw [Addr.add_lit, Nat.zero_add, e] at hc
    exact hc
  · obtain ⟨q1, q2 | ⟨b, off, rfl, _, q3, q4⟩⟩ := hr
    · exact ⟨q1, .inl q2⟩
    · refine ⟨q1, .inr ⟨b, off, rfl, Nat.zero_le _, ?_, q4⟩⟩
      have hoff : (vg vs t).ownBlock = some b := by
        obtain ⟨_, ⟨h2, h3⟩ | ⟨g', cap, cur, h2, _⟩⟩ := h1
        · rw [h2] at e; cases e
        · rw [h2] at e ⊢
          cases e; rfl
      exact (hap b hoff).1
end
theorem KI.lvb {g : Gr} {P : PL} {D : List Nat} {i j : Nat} {lv lf : List Nat} {d : Nat × Nat → Bool} (h : KI g P D i j lv lf d) {s : Nat} (hs : s < (grpL g).length) : el lv s ≤ (grpL g).length + 1 := by
  rcases (h.lev s hs).2 with q | ⟨t, _, _, q⟩
  · omega
  · have := lv_le g t; omega
theorem KI.lfb {g : Gr} {P : PL} {D : List Nat} {i j : Nat} {lv lf : List Nat} {d : Nat × Nat → Bool} (h : KI g P D i j lv lf d) {s : Nat} (hs : s < (grpL g).length) : el lf s ≤ P.length := by
  rw [h.left s hs]; exact List.countP_le_length

set_option maxRecDepth 100000 in
set_option maxHeartbeats 8000000 in
theorem levels_any {hi : Nat} (ag : Option Addr) (n cg : Nat) (g : Gr) (w : World) (hg : GI hi w ag n g) (hh : hi ≤ w.heap.size) (hn : n ≤ 10000) :
    Calls Try.prog 15 #[.slice ag n cg] w fun e w' => Below w.heap.size w w' ∧ ∃ q, e = .returned (.slice (some ⟨q, 0, none⟩) (grpL g).length (grpL g).length) ∧ w.heap.size ≤ q ∧ Box w' q 3 (intsOf (lvL g)) := by
  have HGL := Lib.hid hg.1
  obtain ⟨m, hm⟩ : ∃ m, (grpL g).length = m := ⟨_, rfl⟩
  have hmn : m ≤ 10000 := by
    have h9 : (grpL g).length ≤ g.length := grpI_len
    rw [hm] at h9
    have := HGL.out
    omega
  have HBT := Lib.hid (between_any ag n cg g w hg hh hn)
  rw [hm] at HBT
  obtain ⟨i0, hi0, hz0, hz1, hz2⟩ := info_parts Try.info3
  have hmk : ∀ W : World, (Instr.makeSlice 26 (.int .i64 (m : Int)) (.int .i64 (m : Int))).run Try.prog W = .ok (.slice (some ⟨W.heap.size, 0, none⟩) m m) (W.alloc (.cells (List.replicate m (Value.int .i64 0)).toArray 3)) := fun W => by
    have h := run_make (P := Try.prog) W 26 3 i0 (.int .i64 0) Try.underlying26 hi0 hz0 .i64 .i64 (m : Int) (m : Int) (by omega) (by omega) (by rw [hz2]; omega) (by omega)
    rw [hz1] at h
    have hm : madeCells (Value.int .i64 0).cells (((m : Nat) : Int).toNat * 1) = (List.replicate m (Value.int .i64 0)).toArray := by
      apply Array.ext'
      have := toList_madeCells_one (Value.int .i64 0) m
      rw [show (Value.int .i64 0).cells = #[Value.int .i64 0] from rfl]
      simpa using this
    rw [hm] at h
    simpa using h
  obtain ⟨MB, hMB⟩ : ∃ MB, (List.replicate m (Value.int .i64 0)).toArray = MB := ⟨_, rfl⟩
  rw [hMB] at hmk
  have HMB := Lib.hid hMB
  have HM := Lib.hid hm
  rw [hm]
  clear hMB hg hm hh
  go_enter Try.func15, Try.ntmps15
  go_upto_region 2 with (go_at_call 25; (with_reducible refine (HBT.out).mono ?_); rintro e w1 ⟨hb1, B, fo, lo, vs, P, X, rfl, heb1, hwB, hbi1⟩; have HB1 := Lib.hid hb1; have HE1 := Lib.hid heb1; have HBI := Lib.hid hbi1; clear hb1 heb1 hbi1 HBT)
  obtain ⟨eb, heb⟩ : ∃ eb, w1.heap.size = eb := ⟨_, rfl⟩
  have hx2 : Box (w1.alloc (.cells #[.slice (some ⟨fo, 0, none⟩) m m, .slice (some ⟨lo, 0, none⟩) m m] 42)) w1.heap.size 42 [.slice (some ⟨fo, 0, none⟩) m m, .slice (some ⟨lo, 0, none⟩) m m] := Box.new w1 _ [.slice (some ⟨fo, 0, none⟩) m m, .slice (some ⟨lo, 0, none⟩) m m]
  have hb2 : Below w1.heap.size w1 (w1.alloc (.cells #[.slice (some ⟨fo, 0, none⟩) m m, .slice (some ⟨lo, 0, none⟩) m m] 42)) := (Below.refl _ _).alloc (Nat.le_refl _) _
  have hs2 : (w1.alloc (.cells #[.slice (some ⟨fo, 0, none⟩) m m, .slice (some ⟨lo, 0, none⟩) m m] 42)).heap.size = w1.heap.size + 1 := by simp
  obtain ⟨w2, hw2⟩ : ∃ w2, w1.alloc (.cells #[.slice (some ⟨fo, 0, none⟩) m m, .slice (some ⟨lo, 0, none⟩) m m] 42) = w2 := ⟨_, rfl⟩
  rw [hw2] at hx2 hb2 hs2 ⊢
  rw [heb] at hx2 hs2 ⊢
  have HX2 := Lib.hid hx2
  have HB2 := Lib.hid hb2
  have HS2 := Lib.hid hs2
  have HEB := Lib.hid heb
  obtain ⟨x1, x2, _, _⟩ := hx2.two
  have hxl := hx2.lt
  clear hw2 heb hx2 hb2 hs2
  go_upto_region 3 with fail
  have hx3 : Box (w2.alloc (.cells MB 3)) w2.heap.size 3 (intsOf (List.replicate m 0)) := by
    rw [← HMB.out]
    have e : List.replicate m (Value.int .i64 0) = intsOf (List.replicate m 0) := by simp [intsOf]
    rw [e]
    exact Box.new _ _ _
  have hb3 : Below w2.heap.size w2 (w2.alloc (.cells MB 3)) := (Below.refl _ _).alloc (Nat.le_refl _) _
  have hs3 : (w2.alloc (.cells MB 3)).heap.size = w2.heap.size + 1 := by simp
  obtain ⟨w3, hw3⟩ : ∃ w3, w2.alloc (.cells MB 3) = w3 := ⟨_, rfl⟩
  rw [hw3] at hx3 hb3 hs3 ⊢
  obtain ⟨lb, hlb⟩ : ∃ lb, w2.heap.size = lb := ⟨_, rfl⟩
  rw [hlb] at hx3 hs3 ⊢
  have HLB : Hid (lb = eb + 1) := by show _ = _; rw [← hlb, HS2.out]
  have HX3 := Lib.hid hx3
  have HB3 := Lib.hid hb3
  have hxe3 := HX2.out.below hb3
  have HXE := Lib.hid hxe3
  obtain ⟨y1, y2, _, _⟩ := hxe3.two
  have hxl3 := hxe3.lt
  have hb13 : Below w1.heap.size w1 w3 := HB2.out.trans (hb3.mono HB2.out.size)
  have HE3 : Hid (EB w3 B fo lo m X vs P) := HE1.out.below hb13
  have HB13 : Hid (Below w1.heap.size w1 w3) := hb13
  have HS3 := Lib.hid hs3
  have HEN := Lib.hid (ends_any (.slice (some ⟨fo, 0, none⟩) m m) lo m P w3 HE3.out.box hmn)
  clear hw3 hlb hx3 hb3 hs3 hxe3 hb13 hmk x1 x2 hxl
  go_wp2_with (go_at_call 26; (with_reducible refine (HEN.out).mono ?_); rintro e w4 ⟨hb4, dv, rfl, hd4⟩; have HB4 := Lib.hid hb4; have HD4 := Lib.hid hd4; clear hb4 hd4 HEN)
  have HLM : Hid (LM w1 w4 B eb fo lo lb m vs P (endsL m P) (List.replicate m 0) (leftL m P) dv) := by
    have h1 := HE3.out.below HB4.out
    have hlow := (HE1.out.xf lo HE1.out.lx)
    have hfow := (ownsRow_lo HE1.out.grd.own fo rfl)
    rw [HEB.out] at hlow hfow
    have hd := HD4.out
    rw [HS3.out] at hd
    have hbB : B ≤ w1.heap.size := by rw [HEB.out]; have := HE1.out.bl; omega
    refine ⟨h1.grd, HXE.out.below HB4.out, h1.box, HX3.out.below HB4.out, hd, fun i hi q hq => ⟨?_, fun e => ?_⟩, ⟨hlow.2, hlow.1, hfow.2, by rw [HLB.out]; omega, HE1.out.bl⟩, (HB13.out.mono hbB).trans (HB4.out.mono (Nat.le_trans hbB HB13.out.size))⟩
    · have := (ownsRow_lo (HE1.out.grd.row i (by rw [fromL_len]; exact hi)) q hq).2
      rw [HEB.out] at this; exact this
    · have := HE1.out.ap i hi q hq
      rw [e] at this; exact this HE1.out.lx
  have HKI : Hid (KI g P (endsL m P) 0 0 (List.replicate m 0) (leftL m P) (fun _ => false)) := by
    have := KI.zero g P
    rw [HM.out] at this
    exact this
  have HWB : Hid (w.heap.size ≤ B) := hwB
  have HLWB : Hid (w.heap.size ≤ lb) := by show _ ≤ _; rw [HLB.out, ← HEB.out]; have := HB1.out.size; omega
  clear HB2 HX2 HS2 HX3 HB3 HXE HE3 HB13 HS3 HB4 HD4 y1 y2 hxl3 hwB HE1
  go_wp2_with fail
  go_loopw [5, 6] (fun dv iv wr => ∃ (i : Nat) (D lv lf : List Nat) (d : Nat × Nat → Bool), i ≤ D.length ∧ D.length ≤ m ∧ iv = .int .i64 (i : Int) ∧ Hid (KI g P D i 0 lv lf d) ∧ Hid (LM w1 wr B eb fo lo lb m vs P D lv lf dv)) (fun _ iv _ => m - (intOf iv).toNat)
  case atStart => exact ⟨0, _, _, _, _, Nat.zero_le _, by have := HKI.out.len; rw [HM.out] at this; exact this, rfl, HKI, HLM⟩
  case round =>
    clear HKI HLM
    obtain ⟨i, D, lv, lf, d, hiD, hDm, rfl, HKI, HLM⟩ := hrel
    have hdn := HLM.out.don
    obtain ⟨dl, hdl⟩ : ∃ dl, D.length = dl := ⟨_, rfl⟩
    rw [hdl] at hdn hiD hDm
    by_cases hlt : i < dl
    · obtain ⟨db, dc, rfl, hdb1, hdb⟩ := hdn.form (by omega)
      obtain ⟨tg, htg⟩ : ∃ tg, D[i]? = some tg := ⟨D[i]'(by omega), List.getElem?_eq_getElem _⟩
      have hci : wr.cell? ⟨db, i, none⟩ = some (.int .i64 (tg : Int)) := by
        rw [hdn.cellAt i (by omega), intsOf_get (by rw [hdl]; exact hlt)]
        unfold el
        rw [List.getD_eq_getElem?_getD, htg]; rfl
      have HTG := Lib.hid htg
      have htm : tg < m := by rw [← HM.out]; exact HKI.out.lt tg (List.mem_of_getElem? htg)
      obtain ⟨z1, z2, _, _⟩ := HLM.out.box.two
      have hebl := HLM.out.box.lt
      obtain ⟨ra, rc, hvg, hcr, hrow⟩ := HLM.out.row htm
      obtain ⟨LL, hLL⟩ : ∃ LL, (fromR P tg).length = LL := ⟨_, rfl⟩
      have hLs : LL ≤ 10000 := by rw [← hLL]; exact Nat.le_trans (fromR_len HBI.out.nd (fun a b h => by have := (HBI.out.lt h).1; rw [HM.out] at this; exact this) tg) hmn
      rw [hLL] at hcr hrow hvg
      have HVG := Lib.hid hvg
      have hfol : fo < wr.heap.size := by have := HLM.out.dis; omega
      have T1 : ∀ W, Sem.run Try.prog (Instr.indexAt 23 (.slice (some ⟨fo, 0, none⟩) m m) (.int .i64 (tg : Int))) W = .ok (.pointer (some ⟨fo, tg, none⟩)) W := fun W => by go_simp
      have HLL := Lib.hid hLL
      have HDL := Lib.hid hdl
      have HKT : Hid (D.length ≤ m) := by show _ ≤ _; omega
      have HIL : Hid (i < D.length) := by show _ < _; omega
      clear htg hvg hLL hrow hdn hdl
      go_wp2_with fail
      clear hci z1 z2 hebl hcr hfol hdb
      go_loopw [5, 34] (fun dv jv wx => ∃ (j : Nat) (D lv lf : List Nat) (d : Nat × Nat → Bool), j ≤ LL ∧ jv = .int .i64 (j : Int) ∧ Hid (i < D.length) ∧ Hid (D.length ≤ m) ∧ Hid (D[i]? = some tg) ∧ Hid (KI g P D i j lv lf d) ∧ Hid (LM w1 wx B eb fo lo lb m vs P D lv lf dv)) (fun _ jv _ => LL - (intOf jv).toNat)
      case atStart => exact ⟨0, D, lv, lf, d, Nat.zero_le _, rfl, HIL, HKT, HTG, HKI, HLM⟩
      case round =>
        clear HKI HLM HTG HDL HKT HIL
        clear D lv lf d
        obtain ⟨j, D, lv, lf, d, hj, rfl, HIL, HKT, HTG, HKI, HLM⟩ := hrel
        rename World => wx
        by_cases hltj : j < LL
        · obtain ⟨ra', rc', e1, _, hr⟩ := HLM.out.row htm
          rw [HVG.out, HLL.out] at e1
          cases e1
          obtain ⟨hrl, hrz⟩ := hr
          rw [HLL.out] at hrl hrz
          obtain ⟨rb, ro, rfl, _, hrb, hrc⟩ := hrz.resolve_left (by omega)
          have hcj := hrc j hltj
          obtain ⟨s, hs⟩ : ∃ s : Nat, (fromR P tg)[j]? = some (s : Int) := by
            have h1 : (fromR P tg)[j]? = some ((fromR P tg)[j]'(by rw [HLL.out]; exact hltj)) := List.getElem?_eq_getElem _
            obtain ⟨s, e, _⟩ := mem_fromR.1 (List.mem_of_getElem? h1)
            exact ⟨s, by rw [h1, e]⟩
          have hgd : (fromR P tg).getD j 0 = (s : Int) := by rw [List.getD_eq_getElem?_getD, hs]; rfl
          rw [hgd] at hcj
          obtain ⟨hsm, hpos, d', hk'⟩ := HKI.out.step HBI.out HTG.out hs
          have hlb1 := HKI.out.lvb hsm
          have hlf1 := HKI.out.lfb hsm
          have hlb2 := HKI.out.lvb (s := tg) (by rw [HM.out]; exact htm)
          rw [HM.out] at hsm hlb1 hlb2
          have hPL : P.length ≤ 100000000 := by
            have h9 := HBI.out.len HM.out
            have : m * m ≤ 10000 * 10000 := Nat.mul_le_mul hmn hmn
            omega
          have hll := HKI.out.ll
          have hfl := HKI.out.lfl
          rw [HM.out] at hll hfl
          have c1 := box_el HLM.out.lev (i := s) (by rw [hll]; exact hsm)
          have c2 := box_el HLM.out.lev (i := tg) (by rw [hll]; exact htm)
          have c3 := box_el HLM.out.lef (i := s) (by rw [hfl]; exact hsm)
          have f1 := HLM.out.lev.frozen s
          have f3 := HLM.out.lef.frozen s
          have l1 := HLM.out.lev.lt
          have l3 := HLM.out.lef.lt
          obtain ⟨z1, z2, _, _⟩ := HLM.out.box.two
          have hebl := HLM.out.box.lt
          obtain ⟨d1, d2, d3, d4, d5⟩ := HLM.out.dis
          have HSS : Hid (∀ X L1 : Nat, LM w1 (((wx.setCell ⟨lb, s, none⟩ (.int .i64 (X : Int))).drew).setCell ⟨lo, s, none⟩ (.int .i64 (L1 : Int))) B eb fo lo lb m vs P D (lv.set s X) (lf.set s L1) _) := fun X L1 => ((HLM.out.setLev s X).drew).setLef s L1
          obtain ⟨A, hA⟩ : ∃ A, el lv s = A := ⟨_, rfl⟩
          obtain ⟨Bt, hBt⟩ : ∃ Bt, el lv tg = Bt := ⟨_, rfl⟩
          obtain ⟨L, hL⟩ : ∃ L, el lf s = L := ⟨_, rfl⟩
          rw [hA] at c1 hk' hlb1
          rw [hBt] at c2 hk' hlb2
          rw [hL] at c3 hk' hpos hlf1
          obtain ⟨Bs, hBs⟩ : ∃ Bs, Bt + 1 = Bs := ⟨_, rfl⟩
          obtain ⟨L1, hL1⟩ : ∃ L1, L - 1 = L1 := ⟨_, rfl⟩
          obtain ⟨X, hX⟩ : ∃ X, max A Bs = X := ⟨_, rfl⟩
          rw [hBs, hX, hL1] at hk'
          have hwB : IntKind.i64.wrap ((Bt : Int) + 1) = (Bs : Int) := by rw [show (Bt : Int) + 1 = (Bs : Int) by omega]; exact IntWalk.i64_in _ (by omega)
          have hwL : IntKind.i64.wrap ((L : Int) - 1) = (L1 : Int) := by rw [show (L : Int) - 1 = (L1 : Int) by omega]; exact IntWalk.i64_in _ (by omega)
          have EX : (if A < Bs then (Bs : Int) else (A : Int)) = (X : Int) := by split <;> omega
          have T2 : ∀ W, Sem.run Try.prog (Instr.indexAt 26 (.slice (some ⟨rb, ro, none⟩) LL rc) (.int .i64 (j : Int))) W = .ok (.pointer (some ⟨rb, ro + j, none⟩)) W := fun W => by go_simp
          have T3 : ∀ W, Sem.run Try.prog (Instr.indexAt 26 (.slice (some ⟨lb, 0, none⟩) m m) (.int .i64 (s : Int))) W = .ok (.pointer (some ⟨lb, s, none⟩)) W := fun W => by go_simp
          have T4 : ∀ W, Sem.run Try.prog (Instr.indexAt 26 (.slice (some ⟨lb, 0, none⟩) m m) (.int .i64 (tg : Int))) W = .ok (.pointer (some ⟨lb, tg, none⟩)) W := fun W => by go_simp
          have T5 : ∀ W, Sem.run Try.prog (Instr.indexAt 26 (.slice (some ⟨lo, 0, none⟩) m m) (.int .i64 (s : Int))) W = .ok (.pointer (some ⟨lo, s, none⟩)) W := fun W => by go_simp
          have hrb2 : rb < wx.heap.size := by omega
          have n1 : lo ≠ lb := by omega
          have n2 : eb ≠ lb := by omega
          have n3 : eb ≠ lo := by omega
          clear hs hgd hrl hrz hrc hA hBt hL hBs hL1 hX hll hfl
          by_cases h0 : L1 = 0
          · have hz : ((L1 : Int) == 0) = true := by simp; omega
            subst h0
            rw [if_pos rfl] at hk'
            have HK2 := Lib.hid hk'
            have HLN := HSS.out X 0
            have HL2 : Hid (LM w1 (((wx.setCell ⟨lb, s, none⟩ (.int .i64 (X : Int))).drew).setCell ⟨lo, s, none⟩ (.int .i64 0)) B eb fo lo lb m vs P D (lv.set s X) (lf.set s 0) _) := HLN
            have hdn := HL2.out.don
            obtain ⟨dl, hdl⟩ : ∃ dl, D.length = dl := ⟨_, rfl⟩
            have hk2l := HK2.out.len
            rw [List.length_append, hdl, HM.out] at hk2l
            have hk2m : dl + 1 ≤ m := hk2l
            rw [hdl] at hdn
            obtain ⟨dva, dvc, rfl⟩ := own_shape hdn
            have HDN := Lib.hid hdn
            have HDL := Lib.hid hdl
            clear hk' HLN hdn hdl hk2l
            go_upto_region 11 with fail
            go_region
            go_upto_region 14 with fail
            have hdp : World.ownsRow (((wx.setCell ⟨lb, s, none⟩ (.int .i64 (X : Int))).setCell ⟨lo, s, none⟩ (.int .i64 0)).drew) (lb + 1) 3 1 (.slice dva dl dvc) dl (intsOf D) := HDN.out
            have hlp : LM w1 (((wx.setCell ⟨lb, s, none⟩ (.int .i64 (X : Int))).setCell ⟨lo, s, none⟩ (.int .i64 0)).drew) B eb fo lo lb m vs P D (lv.set s X) (lf.set s 0) (.slice dva dl dvc) := HL2.out
            generalize hwp : ((wx.setCell ⟨lb, s, none⟩ (.int .i64 (X : Int))).setCell ⟨lo, s, none⟩ (.int .i64 0)).drew = wp
            rw [hwp] at hdp hlp
            have HDP := Lib.hid hdp
            have HLP := Lib.hid hlp
            have hlbs := hlp.lev.lt
            clear hdp hlp hwp
            go_wp2_with (at_builtin; refine wpList_append_lies _ rfl _ _ 26 rfl (lb + 1) 3 i0 (.int .i64 0) 1 8 Try.underlying26 hi0 hz0 hz1 hz2 rfl (by decide) _ dl (intsOf D) rfl (HDP.out.alloc _) ⟨wp.heap.size, 0, none⟩ 1 1 [.int .i64 (s : Int)] rfl rfl (news_at (cs := [.int .i64 (s : Int)]) rfl) (by simp [Value.oneCell']) (by decide) ?c3 ?c4 ?c5 _ rfl ?_)
            case c3 => unfold maxLen; omega
            case c4 => omega
            case c5 => first | omega | (simp; omega)
            intro g9 cap9 w9 hown9 hgr9 hat9 hlt9
            have HL9 : Hid (LM w1 w9 B eb fo lo lb m vs P (D ++ [s]) (lv.set s X) (lf.set s 0) (.slice (some ⟨g9, 0, none⟩) (dl + 1) cap9)) := by
              refine HLP.out.done ((Below.refl _ _).alloc (Nat.le_refl _) _) hgr9 ?_
              have e : (D ++ [s]).length = dl + 1 := by rw [List.length_append, HDL.out]; rfl
              rw [e]
              simpa [intsOf] using hown9
            have HIL2 : Hid (i < (D ++ [s]).length) := by show _ < _; rw [List.length_append]; have := HIL.out; omega
            have HKT2 : Hid ((D ++ [s]).length ≤ m) := by show _ ≤ _; rw [List.length_append, HDL.out]; exact hk2m
            have HTG2 : Hid ((D ++ [s])[i]? = some tg) := by show _ = _; rw [List.getElem?_append_left HIL.out]; exact HTG.out
            clear hown9 hgr9 hat9
            go_wp2_with fail
            go_roundw
            case rel => exact ⟨j + 1, D ++ [s], _, _, d', by omega, by go_num, HIL2, HKT2, HTG2, HK2, HL9⟩
            case measure => simp [intOf]; omega
          · have hz : ((L1 : Int) == 0) = false := by simp; omega
            rw [if_neg h0] at hk'
            have HK2 := Lib.hid hk'
            clear hk'
            go_upto_region 11 with fail
            go_region
            go_wp2_with fail
            go_roundw
            case rel => exact ⟨j + 1, D, _, _, d', by omega, by go_num, HIL, HKT, HTG, HK2, Lib.hid (HSS.out _ _)⟩
            case measure => simp [intOf]; omega
        · have hjl : j = LL := by omega
          have hge : ¬ ((j : Int) < (LL : Int)) := by omega
          have HK2 : Hid (KI g P D (i + 1) 0 lv lf d) := by
            have := HKI.out
            rw [hjl, ← HLL.out] at this
            exact this.turn HTG.out
          clear hjl
          go_wp2_with fail
          go_roundw
          case rel => exact ⟨i + 1, D, lv, lf, d, HIL.out, HKT.out, by go_num, HK2, HLM⟩
          case measure => have := HIL.out; have := HKT.out; simp [intOf]; omega
    · have hge : ¬ ((i : Int) < (dl : Int)) := by omega
      have hdl2 : (.slice none 0 0 : Value) = .slice none 0 0 := rfl
      obtain ⟨dva, dvc, rfl⟩ := own_shape hdn
      have HFIN : Hid (lv = lvL g) := HKI.out.done HBI.out (by omega)
      have HRB : Hid (Below w.heap.size w wr) := HB1.out.trans (HLM.out.bel.mono HWB.out)
      clear hdn hdl
      go_wp2_with fail
      go_ret
      have hx := HLM.out.lev
      rw [HFIN.out] at hx
      first | exact ⟨HRB.out, lb, rfl, HLWB.out, hx⟩ | exact ⟨HRB.out, HLWB.out, hx⟩ | (trace_state; sorry)

end Go.Proofs.Ytdbjmonboecfgaa
