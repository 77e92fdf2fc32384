/- The document's Waves; awake of the statements. -/
import Derived.Test.YtdbjmonboecfgaaVd
import Derived.Test.YtdbjmonboecfgaaVf
import Derived.Test.YtdbjmonboecfgaaGaw
namespace Go.Proofs.Ytdbjmonboecfgaa
open Go.RowKit Go.Maps
set_option linter.unusedVariables false
set_option linter.unusedSimpArgs false

theorem gi_two2 (w : World) : GI (((w.alloc (.cells #[] 3)).alloc (.cells #[.int .i64 0] 3)).alloc (.cells #[.slice (some ⟨w.heap.size, 0, none⟩) 0 0, .slice (some ⟨w.heap.size + 1, 0, none⟩) 1 1] 26)).heap.size (((w.alloc (.cells #[] 3)).alloc (.cells #[.int .i64 0] 3)).alloc (.cells #[.slice (some ⟨w.heap.size, 0, none⟩) 0 0, .slice (some ⟨w.heap.size + 1, 0, none⟩) 1 1] 26)) (some ⟨w.heap.size + 1 + 1, 0, none⟩) 2 [[], [0]] := by
  refine gi_rows (g := [[], [0]]) (box_at2 w _ _ _ [.slice (some ⟨w.heap.size, 0, none⟩) 0 0, .slice (some ⟨w.heap.size + 1, 0, none⟩) 1 1]) (by simp) (fun i => by match i with | 0 => simp [rowG] | 1 => simp [rowG] | i + 2 => simp [rowG]) fun i hi => ?_
  match i, hi with
  | 0, _ => exact ⟨_, _, rfl, row_box (r := []) (((Box.new w _ []).alloc _).alloc _)⟩
  | 1, _ => exact ⟨_, _, rfl, row_box (r := [0]) ((box_at1 w _ _ [.int .i64 0]).alloc _)⟩

set_option maxRecDepth 100000 in
theorem awake6_any (w : World) : Calls Try.prog 19 #[] w fun e w' => e = .returned (.bool true) ∧ Below w.heap.size w w' := by
  have hba : Below w.heap.size w (((w.alloc (.cells #[] 3)).alloc (.cells #[.int .i64 0] 3)).alloc (.cells #[.slice (some ⟨w.heap.size, 0, none⟩) 0 0, .slice (some ⟨w.heap.size + 1, 0, none⟩) 1 1] 26)) := below_alloc (below_alloc (below_alloc (Below.refl _ _) (Nat.le_refl _) _) (Nat.le_refl _) _) (Nat.le_refl _) _
  have HOF := Lib.hid (levels_any _ 2 2 _ _ (gi_two2 w) (Nat.le_refl _) (by omega))
  rw [gr_awake, lv_awake] at HOF
  have HBA := Lib.hid hba
  clear hba
  go_enter Try.func19, Try.ntmps19
  go_wp2_with (first
    | (go_at_call 15; (with_reducible refine (HOF.out).mono ?_); rintro e w1 ⟨hb1, q, rfl, hq, hx1⟩; have HX1 := Lib.hid hx1; have HB1 := Lib.hid (HBA.out.trans (hb1.mono HBA.out.size)); clear hx1 hb1 HOF; have HIN := Lib.hid (ints_any (some ⟨q, 0, none⟩) (some ⟨w1.heap.size, 0, none⟩) 2 2 2 2 [0, 1] [0, 1] (w1.alloc (.cells #[.int .i64 0, .int .i64 1] 3)) (row_box (r := [0, 1]) (Box.alloc (cs := intsOf [0, 1]) HX1.out _)) (row_box (r := [0, 1]) (Box.new w1 _ [.int .i64 0, .int .i64 1])) (by omega)); have HBB : Hid (Below w.heap.size w (w1.alloc (.cells #[.int .i64 0, .int .i64 1] 3))) := below_alloc HB1.out (Nat.le_refl _) _)
    | (go_at_call 13; (with_reducible refine (HIN.out).mono ?_); rintro e w2 ⟨rfl, k, rfl⟩; have HB2 := Lib.hid (below_drewN HBB.out k); clear HIN))
  go_ret
  exact ⟨by simp, HB2.out⟩

set_option maxRecDepth 100000 in
set_option maxHeartbeats 8000000 in
theorem rwaves_any {hi : Nat} (ag : Option Addr) (n cg : Nat) (g : Gr) (w : World) (hg : GI hi w ag n g) (hh : hi ≤ w.heap.size) (hn : n ≤ 10000) :
    Calls Try.prog 18 #[.slice ag n cg] w fun e w' => Below w.heap.size w w' ∧ ∃ a c', e = .returned (.slice a (wvL g).length c') ∧ GI w'.heap.size w' a (wvL g).length (wvL g) := by
  have HGL := Lib.hid hg.1
  obtain ⟨m, hm⟩ : ∃ m, (grpL g).length = m := ⟨_, rfl⟩
  have hmn : m ≤ 10000 := by
    have h9 : (grpL g).length ≤ g.length := grpI_len
    rw [hm] at h9
    have := HGL.out
    omega
  have HLV := Lib.hid (rlevels_any ag n cg g w hg hh hn)
  rw [hm] at HLV
  obtain ⟨i0, hi0, hz0, hz1, hz2⟩ := info_parts Try.info3
  obtain ⟨j0, hj0, hy0, hy1, hy2⟩ := info_parts Try.gRowInfo
  have HM := Lib.hid hm
  have HWL : Hid (wvL g = wavesL (lvL g)) := rfl
  have HLL : Hid ((lvL g).length = m) := by show _ = _; rw [lvL_len]; exact hm
  have HLE : Hid (∀ p, p < m → el (lvL g) p ≤ m) := fun p hp => by rw [lvL_el (by rw [hm]; exact hp)]; rw [← hm]; exact lv_le g p
  have HTOP : Hid (∀ p, topL ((lvL g).take p) ≤ m + 1) := fun p => by rw [← hm]; exact topL_le fun v hv => lvL_le g v (List.mem_of_mem_take hv)
  have HSZ : Hid ((wvL g).length ≤ 1000000 ∧ ∀ k, (rowG (wvL g) k).length ≤ 1000000) := ⟨by have := wvL_len g; omega, fun k => by have := wvL_row g k; omega⟩
  obtain ⟨lv, hlv⟩ : ∃ lv, lvL g = lv := ⟨_, rfl⟩
  obtain ⟨WV, hWV⟩ : ∃ WV, wvL g = WV := ⟨_, rfl⟩
  rw [hlv] at HLV HWL HLL HLE HTOP
  rw [hWV] at HWL HSZ ⊢
  clear hg hm hlv hWV
  go_enter Try.func18, Try.ntmps18
  go_wp2_with (go_at_call 16; (with_reducible refine (HLV.out).mono ?_); rintro e w1 ⟨hb1, q, rfl, hq, hx1⟩; have HB1 := Lib.hid hb1; have HX1 := Lib.hid hx1; clear hb1 hx1 HLV)
  obtain ⟨B, hB⟩ : ∃ B, w1.heap.size = B := ⟨_, rfl⟩
  have HBE := Lib.hid hB
  have hqB : q < B := by rw [← hB]; exact HX1.out.lt
  have hwB : w.heap.size ≤ B := by rw [← hB]; exact HB1.out.size
  have HW0 : Hid (WI lv 0 []) := WI.zero lv
  have HG0 := Lib.hid (Grd.nil w1 B)
  have HBB : Hid (Below B w1 w1) := Below.refl _ _
  clear hB hq
  go_loopw [4, 5] (fun wv iv wr => ∃ (p : Nat) (rows : Gr) (vs : List Value), p ≤ m ∧ iv = .int .i64 (p : Int) ∧ Hid (WI lv p rows) ∧ Hid (Grd wr B wv vs rows) ∧ Hid (Below B w1 wr)) (fun _ iv _ => m - (intOf iv).toNat)
  case atStart => exact ⟨0, [], [], Nat.zero_le _, rfl, HW0, HG0, HBB⟩
  case round =>
    clear HW0 HG0 HBB
    obtain ⟨p, rows, vs, hp, rfl, HW, HG, HB⟩ := hrel
    by_cases hlt : p < m
    · obtain ⟨v, hv⟩ : ∃ v, el lv p = v := ⟨_, rfl⟩
      have hvm : v ≤ m := by rw [← hv]; exact HLE.out p hlt
      have HV := Lib.hid hv
      have HJ0 : Hid (WJ lv p rows) := HW.out.start
      have T1 : ∀ W, Sem.run Try.prog (Instr.indexAt 26 (.slice (some ⟨q, 0, none⟩) m m) (.int .i64 (p : Int))) W = .ok (.pointer (some ⟨q, p, none⟩)) W := fun W => by go_simp
      clear hv
      go_wp2_with fail
      go_loopw [4] (fun wv wx => ∃ (rows : Gr) (vs : List Value), Hid (WJ lv p rows) ∧ Hid (Grd wx B wv vs rows) ∧ Hid (Below B w1 wx)) (fun wv _ => v + 1 - lenV wv)
      case atStart => exact ⟨rows, vs, HJ0, HG, HB⟩
      case round =>
        clear HJ0 HG HB HW
        clear rows vs
        obtain ⟨rows, vs, HJ, HG, HB⟩ := hrel
        rename World => wx
        have hxq := HX1.out.below (show Below w1.heap.size w1 wx by rw [HBE.out]; exact HB.out)
        have hcp := box_el hxq (i := p) (by rw [HLL.out]; exact hlt)
        have hql := hxq.lt
        rw [HV.out] at hcp
        have hG := HG.out.own
        obtain ⟨wa, wc, rfl⟩ := own_shape hG
        obtain ⟨rl, hrl⟩ : ∃ rl, rows.length = rl := ⟨_, rfl⟩
        have hrm : rl ≤ m + 1 := by
          have h1 := HJ.out.hi
          have h2 := HTOP.out p
          rw [HV.out, hrl] at h1
          omega
        have hBx : B ≤ wx.heap.size := by have := HB.out.size; rw [HBE.out] at this; exact this
        rw [hrl] at hG
        have HRL := Lib.hid hrl
        have HGO := Lib.hid hG
        have HLO := Lib.hid (ownsRow_lo hG)
        clear hxq
        by_cases hc : rl ≤ v
        · have e1 : (rl : Int) ≤ (v : Int) := by omega
          have HJ2 : Hid (WJ lv p (rows ++ [[]])) := HJ.out.more (by rw [HLL.out]; exact hlt) (by rw [HV.out, hrl]; exact hc)
          rw [hrl]
          clear hG hrl
          go_wp2_with (at_builtin; refine wpList_append_lies _ rfl _ _ 23 rfl B 26 j0 (.slice none 0 0) 1 24 Try.underlying23 hj0 hy0 hy1 hy2 rfl (by decide) _ rl vs rfl (HGO.out.alloc _) ⟨wx.heap.size, 0, none⟩ 1 1 [.slice none 0 0] rfl rfl (news_at (cs := [.slice none 0 0]) rfl) (by simp [Value.oneCell']) (by decide) ?c3 ?c4 ?c5 _ rfl ?_)
          case c3 => unfold maxLen; omega
          case c4 => omega
          case c5 => first | omega | (simp; omega)
          intro g9 cap9 w9 hown9 hgr9 hat9 hlt9
          have HG9 : Hid (Grd w9 B (.slice (some ⟨g9, 0, none⟩) (rl + 1) cap9) (vs ++ [.slice none 0 0]) (rows ++ [[]])) := by
            have hrl := HRL.out
            subst hrl
            exact HG.out.push (nil_own wx B) (fun q hq => by cases hq) ((Below.refl _ wx).alloc (Nat.le_refl _) _) hgr9 hown9 (by rw [World.size_alloc]; exact hat9)
          have HB9 : Hid (Below B w1 w9) := (HB.out.alloc hBx _).grown hgr9 (by rw [World.size_alloc]; omega) fun r hr => (HLO.out r hr).1
          clear hown9 hgr9 hat9
          go_wp2_with fail
          go_roundw
          case rel => exact ⟨rows ++ [[]], _, HJ2, HG9, HB9⟩
          case measure => simp [lenV]; omega
        · have e1 : ¬ (rl : Int) ≤ (v : Int) := by omega
          have hvr : v < rl := by omega
          obtain ⟨o, oc, e, ho1, ho2⟩ := hG.form (by omega)
          cases e
          have hco := HG.out.own.cells (g := o) rfl v (vg vs v) (by simp [vg, List.getD, show v < vs.length by rw [HG.out.len, hrl]; exact hvr])
          rw [Addr.add_lit, Nat.zero_add] at hco
          have hfo : wx.frozen? ⟨o, v, none⟩ = false := hG.frozenAt v
          have hrw := HG.out.row v (by rw [hrl]; exact hvr)
          have hap := HG.out.ap v (by rw [hrl]; exact hvr)
          obtain ⟨u, hu⟩ : ∃ u, vg vs v = u := ⟨_, rfl⟩
          rw [hu] at hco hrw hap
          obtain ⟨lr, hlr⟩ : ∃ lr, (rowG rows v).length = lr := ⟨_, rfl⟩
          have hlrp : lr ≤ p := by rw [← hlr, HJ.out.row]; exact atLev_len _ _ _
          rw [hlr] at hrw
          obtain ⟨ua, uc, rfl⟩ := own_shape hrw
          have T3 : ∀ W, Sem.run Try.prog (Instr.indexAt 23 (.slice (some ⟨o, 0, none⟩) rl wc) (.int .i64 (v : Int))) W = .ok (.pointer (some ⟨o, v, none⟩)) W := fun W => by go_simp
          have HRW := Lib.hid hrw
          have HLR := Lib.hid hlr
          have HU := Lib.hid hu
          have HAP := Lib.hid hap
          have HLU := Lib.hid (ownsRow_lo hrw)
          have hol : o < wx.heap.size := ho2
          have HJ2 : Hid (WI lv (p + 1) (rows.set v (rowG rows v ++ [(p : Int)]))) := by
            have := HJ.out.put (by rw [HLL.out]; exact hlt) (by rw [HV.out, hrl]; exact hvr)
            rw [HV.out] at this
            exact this
          have hqo : q ≠ o := by omega
          have HKC : Hid (∀ W W9 : World, Below wx.heap.size wx W → W.grownBy W9 (Value.slice ua lr uc).ownBlock → W9.cell? ⟨q, p, none⟩ = some (.int .i64 (v : Int)) ∧ W9.cell? ⟨o, v, none⟩ = some (.slice ua lr uc) ∧ W9.frozen? ⟨o, v, none⟩ = false ∧ o < W9.heap.size ∧ q < W9.heap.size) := fun W W9 h4 h5 => by
            have s1 := h4.size
            have s2 := h5.size
            have hob : some o ≠ (Value.slice ua lr uc).ownBlock := fun e => HAP.out o e.symm rfl
            have hqb : some q ≠ (Value.slice ua lr uc).ownBlock := fun e => by have := (HLU.out q e.symm).1; omega
            exact ⟨(World.cell?_of_block (h5.block q (by omega) hqb)).trans ((h4.cell (p := ⟨q, p, none⟩) hql).trans hcp), (World.cell?_of_block (h5.block o (by omega) hob)).trans ((h4.cell (p := ⟨o, v, none⟩) hol).trans hco), (World.frozen?_of_block (h5.block o (by omega) hob)).trans ((h4.frozen (p := ⟨o, v, none⟩) hol).trans hfo), by omega, by omega⟩
          have HW1 : Hid (∀ W : World, Below wx.heap.size wx W → B ≤ W.heap.size) := fun W h4 => by have := h4.size; omega
          have HQ1 : Hid (lr + 1 ≤ maxLen) := by show _ ≤ _; unfold maxLen; omega
          have HQ2 : Hid ((lr + 1) * 8 ≤ 140737488355328) := by show _ ≤ _; omega
          have HONE : Hid (∀ u ∈ [Value.int .i64 (p : Int)], u.oneCell' = true) := by
            intro u hu; simp at hu; rcases hu with rfl; rfl
          have HF : Hid (∀ (W W9 : World) (g9 cap9 : Nat), Below wx.heap.size wx W → W.grownBy W9 (Value.slice ua lr uc).ownBlock → W9.ownsRow B 3 1 (.slice (some ⟨g9, 0, none⟩) (lr + 1) cap9) (lr + 1) (intR (rowG rows v) ++ [.int .i64 (p : Int)]) → ((Value.slice ua lr uc).ownBlock = some g9 ∨ g9 = W.heap.size) → Grd (W9.setCell ⟨o, v, none⟩ (.slice (some ⟨g9, 0, none⟩) (lr + 1) cap9)) B (.slice (some ⟨o, 0, none⟩) rl wc) (vs.set v (.slice (some ⟨g9, 0, none⟩) (lr + 1) cap9)) (rows.set v (rowG rows v ++ [(p : Int)])) ∧ Below B w1 (W9.setCell ⟨o, v, none⟩ (.slice (some ⟨g9, 0, none⟩) (lr + 1) cap9))) := fun W W9 g9 cap9 h4 h5 h6 h7 => by
            have hl9 : (rowG rows v ++ [(p : Int)]).length = lr + 1 := by rw [List.length_append, HLR.out]; rfl
            have hp := HG.out.put (W := W) (w9 := W9) (i := v) (o := o) (n := rl) (cap := wc) (g := g9) (c := cap9) (r := rowG rows v ++ [(p : Int)]) (by rw [HRL.out]; exact hvr) (by rw [HRL.out]) h4 (by rw [HU.out]; exact h5) (by rw [hl9]; simpa [intR] using h6) (by rw [HU.out]; exact h7)
            rw [hl9, HRL.out] at hp
            have s1 := h4.size
            exact ⟨hp, ((HB.out.trans (h4.mono hBx)).grown h5 (by omega) fun r hr => (HLU.out r hr).1).setCell (p := ⟨o, v, none⟩) ho1 _⟩
          rw [hrl]
          clear hG hrl hrw hlr hu hap
          go_upto_region 8 with fail
          go_region_law ((refine step_append_lies _ rfl _ _ _ rfl B 3 i0 (.int .i64 0) 1 8 Try.underlying26 hi0 hz0 hz1 hz2 rfl (by decide) (.slice ua lr uc) lr (intR (rowG rows v)) rfl (by exact ownsRow_below HRW.out (by repeat (first | with_reducible exact Below.refl _ _ | with_reducible refine Below.drew ?_ | with_reducible refine below_alloc ?_ (Nat.le_refl _) _))) _ 1 1 [.int .i64 (p : Int)] rfl rfl (by first | exact one_news (box_one _ _ _) | exact one_news (box_one _ _ _).drew) HONE.out (by decide) HQ1.out HQ2.out (HW1.out _ (by repeat (first | with_reducible exact Below.refl _ _ | with_reducible refine Below.drew ?_ | with_reducible refine below_alloc ?_ (Nat.le_refl _) _))) _ rfl ?_; intro g9 cap9 w9 hown9 hgr9 hat9 hlt9; obtain ⟨r1, r2, r3, r4, r5⟩ := HKC.out _ _ (by repeat (first | with_reducible exact Below.refl _ _ | with_reducible refine Below.drew ?_ | with_reducible refine below_alloc ?_ (Nat.le_refl _) _)) hgr9))
          all_goals (
            have hF := Lib.hid (HF.out _ _ _ _ (by repeat (first | with_reducible exact Below.refl _ _ | with_reducible refine Below.drew ?_ | with_reducible refine below_alloc ?_ (Nat.le_refl _) _)) hgr9 hown9 hat9)
            clear hown9 hgr9 hat9 r1 r2 r3 r4 r5
            go_wp2_with fail
            have HG9 := Lib.hid hF.out.1
            have HB9 := Lib.hid hF.out.2
            clear hF
            go_roundw
            (case rel => exact ⟨p + 1, _, _, by omega, by go_num, HJ2, HG9, HB9⟩)
            (case measure => simp [intOf]; omega))
    · have hpm : p = m := by omega
      have hge : ¬ ((p : Int) < (m : Int)) := by omega
      have hW := HW.out
      rw [hpm, ← HLL.out] at hW
      have hdone := hW.done
      rw [← HWL.out] at hdone
      subst hdone
      obtain ⟨a, cc, e, hgi⟩ := HG.out.read HSZ.out.1 HSZ.out.2
      subst e
      have HGI := Lib.hid hgi
      have HRB : Hid (Below w.heap.size w wr) := HB1.out.trans (HB.out.mono hwB)
      clear hpm hW hgi
      go_wp2_with fail
      go_ret
      first | exact ⟨HRB.out, _, _, rfl, HGI.out⟩ | exact ⟨HRB.out, _, ⟨_, rfl⟩, HGI.out⟩ | (trace_state; sorry)

end Go.Proofs.Ytdbjmonboecfgaa
