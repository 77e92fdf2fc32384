/- The document's reached and Reach. -/
import Derived.Test.YtdbjmonboecfgaaGrm
import Derived.Test.YtdbjmonboecfgaaGrh
namespace Go.Proofs.Ytdbjmonboecfgaa
open Go.RowKit Go.Maps
set_option linter.unusedVariables false
set_option linter.unusedSimpArgs false

def bools (s : List Bool) : List Value := s.map Value.bool
theorem bools_get {s : List Bool} {i : Nat} (h : i < s.length) : (bools s)[i]? = some (.bool (bl s i)) := by
  unfold bools bl; simp [h]
theorem boxb_el {w : World} {g i : Nat} {s : List Bool} (h : Box w g 4 (bools s)) (hi : i < s.length) : w.cell? ⟨g, i, none⟩ = some (.bool (bl s i)) := by
  rw [h.cell i, bools_get hi]
theorem boxb_set {w : World} {g i : Nat} {s : List Bool} (h : Box w g 4 (bools s)) (b : Bool) : Box (w.setCell ⟨g, i, none⟩ (.bool b)) g 4 (bools (s.set i b)) := by
  have := h.set i (.bool b)
  unfold bools at *
  rwa [← List.map_set] at this
theorem Try.infoB : (Try.prog.info? 4).map (fun i => (i.zero, i.size, i.bytes)) = some (some (.bool false), 1, 1) := by kernel_rfl
theorem own_first {w : World} {x : Nat} : (w.alloc (.cells #[.int .i64 (x : Int)] 3)).ownsRow w.heap.size 3 1 (.slice (some ⟨w.heap.size, 0, none⟩) 1 1) 1 (intsOf [x]) := by
  exact ⟨rfl, .inr ⟨w.heap.size, 1, #[.int .i64 (x : Int)], rfl, Nat.le_refl _, alloc_at w _, Nat.le_refl _, by unfold maxLen; omega, rfl, rfl⟩⟩
/-- What one reaches, of each node. -/
noncomputable def rchL (g : Gr) (a : Int) : List Bool := (List.range g.length).map fun y : Nat => rchB g a (y : Int)
theorem rchL_len (g : Gr) (a : Int) : (rchL g a).length = g.length := by simp [rchL]
theorem rchL_el {g : Gr} {a : Int} {y : Nat} (hy : y < g.length) : bl (rchL g a) y = rchB g a (y : Int) := by
  simp [bl, rchL, hy]
theorem ext_bl {p q : List Bool} (hl : p.length = q.length) (h : ∀ i, i < p.length → bl p i = bl q i) : p = q := by
  apply List.ext_getElem hl
  intro i h1 h2
  have := h i h1
  simpa [bl, h1, h2] using this

set_option maxRecDepth 100000 in
set_option maxHeartbeats 8000000 in
theorem reached_any {hi : Nat} (ag : Option Addr) (n cg : Nat) (g : Gr) (a : Int) (w : World) (hg : GI hi w ag n g) (hh : hi ≤ w.heap.size) (hn : n ≤ 10000) :
    Calls Try.prog 27 #[.slice ag n cg, .int .i64 a] w fun e w' => ∃ q, e = .returned (.slice (some ⟨q, 0, none⟩) n n) ∧ w.heap.size ≤ q ∧ Box w' q 4 (bools (rchL g a)) ∧ Below w.heap.size w w' := by
  have hgl := hg.1
  obtain ⟨i0, hi0, hz0, hz1, hz2⟩ := info_parts Try.info3
  obtain ⟨j0, hj0, hy0, hy1, hy2⟩ := info_parts Try.infoB
  have hmk : ∀ W : World, (Instr.makeSlice 46 (.int .i64 (n : Int)) (.int .i64 (n : Int))).run Try.prog W = .ok (.slice (some ⟨W.heap.size, 0, none⟩) n n) (W.alloc (.cells (bools (List.replicate n false)).toArray 4)) := fun W => by
    have h := run_make (P := Try.prog) W 46 4 j0 (.bool false) Try.underlying46 hj0 hy0 .i64 .i64 (n : Int) (n : Int) (by omega) (by omega) (by rw [hy2]; omega) (by omega)
    rw [hy1] at h
    have hm : madeCells (Value.bool false).cells (((n : Nat) : Int).toNat * 1) = (bools (List.replicate n false)).toArray := by
      apply Array.ext'
      have := toList_madeCells_one (Value.bool false) n
      rw [show (Value.bool false).cells = #[Value.bool false] from rfl]
      simpa [bools] using this
    rw [hm] at h
    simpa using h
  obtain ⟨MB, hMB⟩ : ∃ MB, (bools (List.replicate n false)).toArray = MB := ⟨_, rfl⟩
  rw [hMB] at hmk
  have hbx : Box (w.alloc (.cells MB 4)) w.heap.size 4 (bools (List.replicate n false)) := by rw [← hMB]; exact Box.new _ _ _
  have hba : Below w.heap.size w (w.alloc (.cells MB 4)) := (Below.refl _ _).alloc (Nat.le_refl _) _
  have HBX := Lib.hid hbx
  have HBA := Lib.hid hba
  have HGI := Lib.hid hg
  have HGL := Lib.hid hgl
  clear hbx hba hMB hj0 hy0 hy1 hy2
  by_cases ha : 0 ≤ a ∧ a < n
  · obtain ⟨x, rfl⟩ : ∃ x : Nat, a = x := ⟨a.toNat, by omega⟩
    have hxn : x < n := by omega
    have hst : RI g x x 0 ((List.replicate n false).set x true) [x] := by rw [← hgl]; exact RI.start (by omega)
    have e1 : decide ((x : Int) < 0) = false := decide_eq_false (by omega)
    have e2 : decide ((n : Int) ≤ (x : Int)) = false := decide_eq_false (by omega)
    have e3 : decide (n ≤ x) = false := decide_eq_false (by omega)
    have hcx := boxb_el HBX.out (i := x) (by simpa using hxn)
    have hfx := HBX.out.frozen x
    obtain ⟨b0, hb0⟩ : ∃ b0, bl (List.replicate n false) x = b0 := ⟨_, rfl⟩
    rw [hb0] at hcx
    have hlt0 := HBX.out.lt
    have HST := Lib.hid hst
    obtain ⟨x1, x2⟩ := ha
    clear hst hb0 hg hgl
    go_enter Try.func27, Try.ntmps27
    go_wp2_with fail
    have hb2 : Below w.heap.size w ((w.alloc (.cells (MB.setIfInBounds x (.bool true)) 4)).alloc (.cells #[.int .i64 (x : Int)] 3)) := ((Below.refl _ w).alloc (Nat.le_refl _) _).alloc (by simp) _
    have hbx2 : Box ((w.alloc (.cells (MB.setIfInBounds x (.bool true)) 4)).alloc (.cells #[.int .i64 (x : Int)] 3)) w.heap.size 4 (bools ((List.replicate n false).set x true)) := by
      refine Box.alloc ?_ _
      have h1 := HBX.out
      unfold Box at h1 ⊢
      rw [alloc_at] at h1 ⊢
      have h2 : MB = (bools (List.replicate n false)).toArray := by cases h1; rfl
      rw [h2, List.setIfInBounds_toArray]
      unfold bools
      rw [List.map_set]
    have how2 : ((w.alloc (.cells (MB.setIfInBounds x (.bool true)) 4)).alloc (.cells #[.int .i64 (x : Int)] 3)).ownsRow (w.heap.size + 1) 3 1 (.slice (some ⟨w.heap.size + 1, 0, none⟩) 1 1) 1 (intsOf [x]) := by
      have := own_first (w := w.alloc (.cells (MB.setIfInBounds x (.bool true)) 4)) (x := x)
      rw [World.size_alloc] at this
      exact this
    obtain ⟨w2, hw2⟩ : ∃ w2, (w.alloc (.cells (MB.setIfInBounds x (.bool true)) 4)).alloc (.cells #[.int .i64 (x : Int)] 3) = w2 := ⟨_, rfl⟩
    rw [hw2] at hb2 hbx2 how2 ⊢
    obtain ⟨q, hq⟩ : ∃ q, w.heap.size = q := ⟨_, rfl⟩
    rw [hq] at hb2 hbx2 how2 hlt0 hh ⊢
    have HB2 := Lib.hid hb2
    have HX2 := Lib.hid hbx2
    have HO2 := Lib.hid how2
    have HQ := Lib.hid hq
    clear hw2 hq hb2 hbx2 how2 HBX HBA hcx hfx e1 e2 hmk
    obtain ⟨M0, hM0⟩ : ∃ M0, [x].length + nf ((List.replicate n false).set x true) = M0 := ⟨_, rfl⟩
    have hM1 : M0 ≤ 10001 := by
      rw [← hM0]
      have h1 : nf ((List.replicate n false).set x true) ≤ ((List.replicate n false).set x true).length := List.countP_le_length
      simp at h1 ⊢
      omega
    go_loopg [6] (M0) (fun gn tv wr => ∃ (L : List Bool) (todo : List Nat) (xx ii : Nat), gn = todo.length + nf L ∧ gn ≤ 10001 ∧ Hid (RI g x xx ii L todo) ∧ Hid (ii = (rowG g xx).length ∨ xx ∈ todo) ∧ Hid (Box wr q 4 (bools L)) ∧ Hid (wr.ownsRow (q + 1) 3 1 tv todo.length (intsOf todo.reverse)) ∧ Hid (Below q w wr))
    case atStart => exact ⟨_, [x], x, 0, hM0.symm, hM1, HST, Lib.hid (.inr (by simp)), HX2, HO2, HB2⟩
    case round =>
      clear HST HX2 HO2 HB2 hM0
      obtain ⟨K0, hK00⟩ : ∃ K0, gk = K0 := ⟨_, rfl⟩
      obtain ⟨L, todo, xx, ii, hgn, hgz, HRI, HD, HX, HO, HB⟩ := hrel
      have hbl := HX.out.lt
      cases todo with
      | nil =>
        have hO := HO.out
        obtain ⟨av, cv, rfl⟩ := own_shape hO
        have hL : L = rchL g x := ext_bl (by rw [HRI.out.len, rchL_len]) fun y hy => by
          rw [HRI.out.len] at hy
          rw [rchL_el hy, Bool.eq_iff_iff, rchB_nat (by rw [HGL.out]; exact hxn) hy]
          exact HRI.out.done HD.out y hy
        have HLL := Lib.hid hL
        clear hO hL
        go_wp2_with fail
        go_ret
        rw [HLL.out] at HX
        exact ⟨q, rfl, by rw [HQ.out]; exact Nat.le_refl _, HX.out, by rw [HQ.out]; exact HB.out⟩
      | cons y r =>
        have hO := HO.out
        obtain ⟨m, hm⟩ : ∃ m, r.length = m := ⟨_, rfl⟩
        rw [List.length_cons, hm, List.reverse_cons] at hO
        obtain ⟨gg, cap, rfl, hg0, hg1, hcap, hcl⟩ := own_last hO (by simpa using hm)
        have hpop : wr.ownsRow (q + 1) 3 1 (.slice (some ⟨gg, 0, none⟩) m cap) m (intsOf r.reverse) := own_pop (by
          have e : intsOf (r.reverse ++ [y]) = intsOf r.reverse ++ [.int .i64 (y : Int)] := by simp [intsOf]
          rw [e] at hO; exact hO) (by simp [intsOf, hm])
        have hLen := HRI.out.len
        rw [HGL.out] at hLen
        have hyl : bl L y = true := HRI.out.tod y (by simp)
        have hyn : y < n := by have := bl_lt hyl; omega
        have hK0 : m + nf L + 1 = K0 := by rw [← hK00, hgn, List.length_cons, hm]; omega
        have hgi := HGI.out
        obtain ⟨gb, off, ai, ci, rfl, hgb, hcr0, hrow0⟩ := hgi.row hyn
        obtain ⟨LL, hLL⟩ : ∃ LL, (rowG g y).length = LL := ⟨_, rfl⟩
        have hLs : LL ≤ 1000000 := by rw [← hLL]; exact hgi.2.2.1 y
        rw [hLL] at hcr0 hrow0
        have hcr := (HB.out.cell (p := ⟨gb, off + y, none⟩) (by show gb < q; omega)).trans hcr0
        have hq1 : q ≤ w.heap.size := by rw [HQ.out]; exact Nat.le_refl _
        have hhq : hi ≤ q := hh
        have hwr : q ≤ wr.heap.size := Nat.le_of_lt hbl
        have T1 : ∀ W, Sem.run Try.prog (Instr.indexAt 26 (.slice (some ⟨gg, 0, none⟩) (m + 1) cap) (.int .i64 (m : Int))) W = .ok (.pointer (some ⟨gg, m, none⟩)) W := fun W => by
          go_simp
          intro h; omega
        have hsl : ∀ W, Sem.run Try.prog (Instr.slice 26 (.slice (some ⟨gg, 0, none⟩) (m + 1) cap) none (some (.int .i64 (m : Int))) none) W = .ok (.slice (some ⟨gg, 0, none⟩) m cap) W := fun W => by
          go_simp
          intro h; omega
        have T2 : ∀ W, Sem.run Try.prog (Instr.indexAt 23 (.slice (some ⟨gb, off, none⟩) n cg) (.int .i64 (y : Int))) W = .ok (.pointer (some ⟨gb, off + y, none⟩)) W := fun W => by go_simp
        have HRT := Lib.hid (HRI.out.turn HD.out (x' := y) (r := r) rfl)
        have HPOP := Lib.hid hpop
        have HROW0 : Hid (Row 0 hi w ai LL (rowG g y)) := hrow0
        have HCR0 : Hid (w.cell? ⟨gb, off + y, none⟩ = some (.slice ai LL ci)) := hcr0
        have HLL := Lib.hid hLL
        have HM := Lib.hid hm
        have HYL := Lib.hid hyl
        clear hpop hrow0 hcr0 hLL hm hyl hgi hO HRI HD HO
        go_wp2_with fail
        clear hcl T1 hsl
        go_loopg [6, 8] (LL) (fun gn tv iv wx => ∃ (L2 : List Bool) (todo2 : List Nat) (i : Nat), gn + i ≤ LL ∧ LL ≤ gn + i ∧ iv = .int .i64 (i : Int) ∧ Hid (RI g x y i L2 todo2) ∧ Hid (bl L2 y = true) ∧ Hid (todo2.length + nf L2 + 1 = K0) ∧ Hid (Box wx q 4 (bools L2)) ∧ Hid (wx.ownsRow (q + 1) 3 1 tv todo2.length (intsOf todo2.reverse)) ∧ Hid (Below q w wx))
        case atStart => exact ⟨L, r, 0, by omega, by omega, rfl, HRT, HYL, Lib.hid (by rw [HM.out]; exact hK0), HX, Lib.hid (by rw [HM.out]; exact HPOP.out), HB⟩
        case round =>
          clear HRT HYL HX HB HPOP hbl hgn hLen hK0 hwr hg1 HM
          obtain ⟨L2, todo2, i, hg1, hg2, rfl, HRI, HYL, HK0, HX, HO, HB⟩ := hrel
          rename World => wx
          have hbl := HX.out.lt
          have hcr := (HB.out.cell (p := ⟨gb, off + y, none⟩) (by show gb < q; omega)).trans HCR0.out
          have hgb1 : gb < wx.heap.size := by omega
          have hL2 := HRI.out.len
          rw [HGL.out] at hL2
          by_cases hlt : i < LL
          · have hrow := (HROW0.out.below HB.out hhq)
            obtain ⟨hrl, hrz⟩ := hrow
            obtain ⟨rb, ro, rfl, hrb1, hrb2, hrc⟩ := hrz.resolve_left (by omega)
            have hcp := hrc i hlt
            obtain ⟨Y, hY⟩ : ∃ Y, (rowG g y).getD i 0 = Y := ⟨_, rfl⟩
            rw [hY] at hcp
            have hpY : (rowG g y)[i]? = some Y := by
              rw [List.getElem?_eq_getElem (by rw [hrl]; exact hlt)]
              rw [List.getD_eq_getElem?_getD, List.getElem?_eq_getElem (by rw [hrl]; exact hlt)] at hY
              simpa using hY
            have hrb : rb < wx.heap.size := by omega
            have T3 : ∀ W, Sem.run Try.prog (Instr.indexAt 26 (.slice (some ⟨rb, ro, none⟩) LL ci) (.int .i64 (i : Int))) W = .ok (.pointer (some ⟨rb, ro + i, none⟩)) W := fun W => by go_simp
            have HPY := Lib.hid hpY
            clear hrc hY hpY hrl hrz
            by_cases hY0 : 0 ≤ Y
            · by_cases hYn : Y < n
              · obtain ⟨z, rfl⟩ : ∃ z : Nat, Y = z := ⟨Y.toNat, by omega⟩
                have hzn : z < n := by omega
                have hcz := boxb_el HX.out (i := z) (by rw [hL2]; exact hzn)
                have hfz := HX.out.frozen z
                cases hbz : bl L2 z with
                | true =>
                  rw [hbz] at hcz
                  have HS := Lib.hid (HRI.out.skip HPY.out fun u hu hq => by have : u = z := by omega
                                                                             rw [this]; exact hbz)
                  clear hbz HRI hL2
                  go_wp2_with fail
                  go_roundg (LL - (i + 1))
                  case measure => omega
                  case rel => exact ⟨L2, todo2, i + 1, by omega, by omega, by go_num, HS, HYL, HK0, HX, HO, HB⟩
                | false =>
                  rw [hbz] at hcz
                  have HS := Lib.hid (HRI.out.push HYL.out HPY.out (by rw [HGL.out]; exact hzn) hbz)
                  have hK := HK0.out
                  have hnf := nf_set (L := L2) (i := z) (by rw [hL2]; exact hzn) hbz
                  have HK2 : Hid ((z :: todo2).length + nf (L2.set z true) + 1 = K0) := by show _ = _; rw [List.length_cons]; omega
                  have HYL2 : Hid (bl (L2.set z true) y = true) := by
                    show _ = _
                    by_cases e : z = y
                    · rw [e, bl_set_self (by rw [hL2]; exact hyn)]
                    · rw [bl_set_other e]; exact HYL.out
                  have hO := HO.out
                  obtain ⟨m2, hm2⟩ : ∃ m2, todo2.length = m2 := ⟨_, rfl⟩
                  rw [hm2] at hO
                  have hm2z : m2 ≤ 20000 := by omega
                  obtain ⟨av, cv, rfl⟩ := own_shape hO
                  have HX3 := Lib.hid (boxb_set (i := z) HX.out true)
                  have HO3 := Lib.hid (own_set hO (a := ⟨q, z, none⟩) (fun p hp => by have := (ownsRow_lo hO p hp).1; show p ≠ q; omega) (.bool true))
                  have HB3 := Lib.hid (HB.out.setCell (p := ⟨q, z, none⟩) (Nat.le_refl _) (.bool true))
                  have HLO := Lib.hid (ownsRow_lo HO3.out)
                  have HM2 := Lib.hid hm2
                  clear hbz HRI hL2 hK hnf hO hm2 HO HX HB
                  go_wp2_with (at_builtin; refine wpList_append_lies _ rfl _ _ 26 rfl (q + 1) 3 i0 (.int .i64 0) 1 8 Try.underlying26 hi0 hz0 hz1 hz2 rfl (by decide) _ m2 (intsOf todo2.reverse) rfl (HO3.out.alloc _) ⟨wx.heap.size, 0, none⟩ 1 1 [.int .i64 (z : Int)] rfl rfl (news_at (cs := [.int .i64 (z : Int)]) (by simp)) (by simp [Value.oneCell']) (by decide) ?c3 ?c4 ?c5 _ rfl ?_)
                  case c3 => unfold maxLen; omega
                  case c4 => omega
                  case c5 => simp; omega
                  intro g9 cap9 w9 hown9 hgr9 hat9 hlt9
                  have HX9 : Hid (Box w9 q 4 (bools (L2.set z true))) := (HX3.out.alloc _).grown hgr9 fun e => by have := (HLO.out q e.symm).1; omega
                  have HB9 : Hid (Below q w w9) := (HB3.out.alloc (by simp; omega) _).grown hgr9 (by simp; omega) fun p hp => by have := (HLO.out p hp).1; omega
                  have HO9 : Hid (w9.ownsRow (q + 1) 3 1 (.slice (some ⟨g9, 0, none⟩) (m2 + 1) cap9) (z :: todo2).length (intsOf (z :: todo2).reverse)) := by
                    have e : intsOf (z :: todo2).reverse = intsOf todo2.reverse ++ [.int .i64 (z : Int)] := by simp [intsOf]
                    show World.ownsRow _ _ _ _ _ _ _
                    rw [e, List.length_cons, HM2.out]
                    exact hown9
                  clear hown9 hgr9 hat9
                  go_wp2_with fail
                  go_roundg (LL - (i + 1))
                  case measure => omega
                  case rel => exact ⟨L2.set z true, z :: todo2, i + 1, by omega, by omega, by go_num, HS, HYL2, HK2, HX9, HO9, HB9⟩
              · have HS := Lib.hid (HRI.out.skip HPY.out fun u hu hq => by rw [HGL.out] at hu; omega)
                clear HRI hL2
                go_wp2_with fail
                go_roundg (LL - (i + 1))
                case measure => omega
                case rel => exact ⟨L2, todo2, i + 1, by omega, by omega, by go_num, HS, HYL, HK0, HX, HO, HB⟩
            · have HS := Lib.hid (HRI.out.skip HPY.out fun u hu hq => by omega)
              clear HRI hL2
              go_wp2_with fail
              go_roundg (LL - (i + 1))
              case measure => omega
              case rel => exact ⟨L2, todo2, i + 1, by omega, by omega, by go_num, HS, HYL, HK0, HX, HO, HB⟩
          · have hii : i = LL := by omega
            have hge : ¬ ((i : Int) < (LL : Int)) := by omega
            have HD : Hid (i = (rowG g y).length ∨ y ∈ todo2) := .inl (by rw [HLL.out]; exact hii)
            have hK := HK0.out
            clear hii hL2
            go_wp2_with fail
            go_roundg (todo2.length + nf L2)
            case measure => omega
            case rel => exact ⟨L2, todo2, y, i, rfl, by omega, HRI, HD, HX, HO, HB⟩
  · have hL : rchL g a = List.replicate n false := ext_bl (by rw [rchL_len, hgl]; simp) fun y hy => by
      rw [rchL_len] at hy
      rw [rchL_el hy, rchB_out (by rw [hgl]; exact fun h => ha ⟨h.1, h.2.1⟩)]
      simp [bl, List.getD, List.getElem?_replicate]
      split <;> rfl
    rw [hL]
    clear hL hg hgl hh
    by_cases ha0 : 0 ≤ a
    · have han : ¬ a < n := fun h => ha ⟨ha0, h⟩
      clear ha
      go_enter Try.func27, Try.ntmps27
      go_wp2_with fail
      go_ret
      exact ⟨w.heap.size, rfl, Nat.le_refl _, HBX.out, HBA.out⟩
    · clear ha
      go_enter Try.func27, Try.ntmps27
      go_wp2_with fail
      go_ret
      exact ⟨w.heap.size, rfl, Nat.le_refl _, HBX.out, HBA.out⟩

end Go.Proofs.Ytdbjmonboecfgaa
