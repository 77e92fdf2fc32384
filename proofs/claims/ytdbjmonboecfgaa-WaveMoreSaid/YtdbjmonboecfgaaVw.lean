/- Package wave: Waves. -/
import Derived.Test.YtdbjmonboecfgaaVl
namespace Go.Proofs.Ytdbjmonboecfgaa
open Go.RowKit Go.Maps
set_option linter.unusedVariables false
set_option linter.unusedSimpArgs false

def lenV : Value → Nat
  | .slice _ n _ => n
  | _ => 0
theorem topL_le {l : List Nat} {b : Nat} (h : ∀ v ∈ l, v ≤ b) : topL l ≤ b + 1 := by
  rcases topL_at l with q | ⟨v, h1, h2⟩
  · omega
  · have := h v h1; omega
theorem lvL_le (g : Gr) : ∀ v ∈ lvL g, v ≤ (grpL g).length := fun v hv => by
  unfold lvL at hv
  obtain ⟨i, _, rfl⟩ := List.mem_map.1 hv
  exact lv_le g i
/-- What is told of waves. -/
noncomputable def wvL (g : Gr) : Gr := wavesL (lvL g)
theorem wvL_len (g : Gr) : (wvL g).length ≤ (grpL g).length + 1 := by
  unfold wvL; rw [wavesL_len]; exact topL_le (lvL_le g)
theorem wvL_row (g : Gr) (k : Nat) : (rowG (wvL g) k).length ≤ (grpL g).length := by
  by_cases h : k < topL (lvL g)
  · unfold wvL; rw [wavesL_row h, lvL_len]; exact atLev_len _ _ _
  · rw [rowG_out (by unfold wvL; rw [wavesL_len]; omega)]; simp
theorem nil_own (w : World) (base : Nat) : w.ownsRow base 3 1 (.slice none 0 0) ([] : List Int).length (intR []) := World.ownsRow_nil _ _ _ _

set_option maxRecDepth 100000 in
set_option maxHeartbeats 8000000 in
theorem waves_any {hi : Nat} (ag : Option Addr) (n cg : Nat) (g : Gr) (w : World) (hg : GI hi w ag n g) (hh : hi ≤ w.heap.size) (hn : n ≤ 10000) :
    Calls Try.prog 17 #[.slice ag n cg] w fun e w' => Below w.heap.size w w' ∧ ∃ a c', e = .returned (.slice a (wvL g).length c') ∧ GI w'.heap.size w' a (wvL g).length (wvL g) := by
  have HGL := Lib.hid hg.1
  obtain ⟨m, hm⟩ : ∃ m, (grpL g).length = m := ⟨_, rfl⟩
  have hmn : m ≤ 10000 := by
    have h9 : (grpL g).length ≤ g.length := grpI_len
    rw [hm] at h9
    have := HGL.out
    omega
  have HLV := Lib.hid (levels_any ag n cg g w hg hh hn)
  rw [hm] at HLV
  obtain ⟨i0, hi0, hz0, hz1, hz2⟩ := info_parts Try.info3
  obtain ⟨j0, hj0, hy0, hy1, hy2⟩ := info_parts Try.gRowInfo
  have HM := Lib.hid hm
  have HWL : Hid (wvL g = wavesL (lvL g)) := rfl
  have HLL : Hid ((lvL g).length = m) := by show _ = _; rw [lvL_len]; exact hm
  have HLE : Hid (∀ p, p < m → el (lvL g) p ≤ m) := fun p hp => by rw [lvL_el (by rw [hm]; exact hp)]; rw [← hm]; exact lv_le g p
  have HTOP : Hid (∀ p, topL ((lvL g).take p) ≤ m + 1) := fun p => by rw [← hm]; exact topL_le fun v hv => lvL_le g v (List.mem_of_mem_take hv)
  have HSZ : Hid ((wvL g).length ≤ 1000000 ∧ ∀ k, (rowG (wvL g) k).length ≤ 1000000) := ⟨by have := wvL_len g; omega, fun k => by have := wvL_row g k; omega⟩
  obtain ⟨lv, hlv⟩ : ∃ lv, lvL g = lv := ⟨_, rfl⟩
  obtain ⟨WV, hWV⟩ : ∃ WV, wvL g = WV := ⟨_, rfl⟩
  rw [hlv] at HLV HWL HLL HLE HTOP
  rw [hWV] at HWL HSZ ⊢
  clear hg hm hlv hWV
  go_enter Try.func17, Try.ntmps17
  go_wp2_with (go_at_call 15; (with_reducible refine (HLV.out).mono ?_); rintro e w1 ⟨hb1, q, rfl, hq, hx1⟩; have HB1 := Lib.hid hb1; have HX1 := Lib.hid hx1; clear hb1 hx1 HLV)
  obtain ⟨B, hB⟩ : ∃ B, w1.heap.size = B := ⟨_, rfl⟩
  have HBE := Lib.hid hB
  have hqB : q < B := by rw [← hB]; exact HX1.out.lt
  have hwB : w.heap.size ≤ B := by rw [← hB]; exact HB1.out.size
  have HW0 : Hid (WI lv 0 []) := WI.zero lv
  have HG0 := Lib.hid (Grd.nil w1 B)
  have HBB : Hid (Below B w1 w1) := Below.refl _ _
  clear hB hq
  go_loopw [3, 9] (fun wv iv wr => ∃ (p : Nat) (rows : Gr) (vs : List Value), p ≤ m ∧ iv = .int .i64 (p : Int) ∧ Hid (WI lv p rows) ∧ Hid (Grd wr B wv vs rows) ∧ Hid (Below B w1 wr)) (fun _ iv _ => m - (intOf iv).toNat)
  case atStart => exact ⟨0, [], [], Nat.zero_le _, rfl, HW0, HG0, HBB⟩
  case round =>
    clear HW0 HG0 HBB
    obtain ⟨p, rows, vs, hp, rfl, HW, HG, HB⟩ := hrel
    by_cases hlt : p < m
    · have hxq := HX1.out.below (show Below w1.heap.size w1 wr by rw [HBE.out]; exact HB.out)
      have hcp := box_el hxq (i := p) (by rw [HLL.out]; exact hlt)
      have hql := hxq.lt
      obtain ⟨v, hv⟩ : ∃ v, el lv p = v := ⟨_, rfl⟩
      rw [hv] at hcp
      have hvm : v ≤ m := by rw [← hv]; exact HLE.out p hlt
      have HV := Lib.hid hv
      have HJ0 : Hid (WJ lv p rows) := HW.out.start
      clear hxq hv
      go_wp2_with fail
      go_loopw [3] (fun wv wx => ∃ (rows : Gr) (vs : List Value), Hid (WJ lv p rows) ∧ Hid (Grd wx B wv vs rows) ∧ Hid (Below B w1 wx)) (fun wv _ => v + 1 - lenV wv)
      case atStart => exact ⟨rows, vs, HJ0, HG, HB⟩
      case round =>
        clear HJ0 HG HB HW
        clear rows vs
        obtain ⟨rows, vs, HJ, HG, HB⟩ := hrel
        rename World => wx
        have hG := HG.out.own
        obtain ⟨wa, wc, rfl⟩ := own_shape hG
        obtain ⟨rl, hrl⟩ : ∃ rl, rows.length = rl := ⟨_, rfl⟩
        have hrm : rl ≤ m + 1 := by
          have h1 := HJ.out.hi
          have h2 := HTOP.out p
          rw [HV.out, hrl] at h1
          omega
        have hBx : B ≤ wx.heap.size := by have := HB.out.size; rw [HBE.out] at this; exact this
        rw [hrl] at hG
        have HRL := Lib.hid hrl
        have HGO := Lib.hid hG
        have HLO := Lib.hid (ownsRow_lo hG)
        by_cases hc : rl ≤ v
        · have e1 : (rl : Int) ≤ (v : Int) := by omega
          have HJ2 : Hid (WJ lv p (rows ++ [[]])) := HJ.out.more (by rw [HLL.out]; exact hlt) (by rw [HV.out, hrl]; exact hc)
          rw [hrl]
          clear hG hrl
          go_wp2_with (at_builtin; refine wpList_append_lies _ rfl _ _ 23 rfl B 26 j0 (.slice none 0 0) 1 24 Try.underlying23 hj0 hy0 hy1 hy2 rfl (by decide) _ rl vs rfl (HGO.out.alloc _) ⟨wx.heap.size, 0, none⟩ 1 1 [.slice none 0 0] rfl rfl (news_at (cs := [.slice none 0 0]) rfl) (by simp [Value.oneCell']) (by decide) ?c3 ?c4 ?c5 _ rfl ?_)
          case c3 => unfold maxLen; omega
          case c4 => omega
          case c5 => first | omega | (simp; omega)
          intro g9 cap9 w9 hown9 hgr9 hat9 hlt9
          have HG9 : Hid (Grd w9 B (.slice (some ⟨g9, 0, none⟩) (rl + 1) cap9) (vs ++ [.slice none 0 0]) (rows ++ [[]])) := by
            have hrl := HRL.out
            subst hrl
            exact HG.out.push (nil_own wx B) (fun q hq => by cases hq) ((Below.refl _ wx).alloc (Nat.le_refl _) _) hgr9 hown9 (by rw [World.size_alloc]; exact hat9)
          have HB9 : Hid (Below B w1 w9) := (HB.out.alloc hBx _).grown hgr9 (by rw [World.size_alloc]; omega) fun r hr => (HLO.out r hr).1
          clear hown9 hgr9 hat9
          go_wp2_with fail
          go_roundw
          case rel => exact ⟨rows ++ [[]], _, HJ2, HG9, HB9⟩
          case measure => simp [lenV]; omega
        · have e1 : ¬ (rl : Int) ≤ (v : Int) := by omega
          have hvr : v < rl := by omega
          obtain ⟨o, oc, e, ho1, ho2⟩ := hG.form (by omega)
          cases e
          have hco := HG.out.own.cells (g := o) rfl v (vg vs v) (by simp [vg, List.getD, show v < vs.length by rw [HG.out.len, hrl]; exact hvr])
          rw [Addr.add_lit, Nat.zero_add] at hco
          have hfo : wx.frozen? ⟨o, v, none⟩ = false := hG.frozenAt v
          have hrw := HG.out.row v (by rw [hrl]; exact hvr)
          have hap := HG.out.ap v (by rw [hrl]; exact hvr)
          obtain ⟨u, hu⟩ : ∃ u, vg vs v = u := ⟨_, rfl⟩
          rw [hu] at hco hrw hap
          obtain ⟨lr, hlr⟩ : ∃ lr, (rowG rows v).length = lr := ⟨_, rfl⟩
          have hlrp : lr ≤ p := by rw [← hlr, HJ.out.row]; exact atLev_len _ _ _
          rw [hlr] at hrw
          obtain ⟨ua, uc, rfl⟩ := own_shape hrw
          have T3 : ∀ W, Sem.run Try.prog (Instr.indexAt 23 (.slice (some ⟨o, 0, none⟩) rl wc) (.int .i64 (v : Int))) W = .ok (.pointer (some ⟨o, v, none⟩)) W := fun W => by go_simp
          have HRW := Lib.hid hrw
          have HLR := Lib.hid hlr
          have HU := Lib.hid hu
          have HAP := Lib.hid hap
          have HLU := Lib.hid (ownsRow_lo hrw)
          have hol : o < wx.heap.size := ho2
          have HJ2 : Hid (WI lv (p + 1) (rows.set v (rowG rows v ++ [(p : Int)]))) := by
            have := HJ.out.put (by rw [HLL.out]; exact hlt) (by rw [HV.out, hrl]; exact hvr)
            rw [HV.out] at this
            exact this
          rw [hrl]
          clear hG hrl hrw hlr hu hap
          go_wp2_with (at_builtin; refine wpList_append_lies _ rfl _ _ 26 rfl B 3 i0 (.int .i64 0) 1 8 Try.underlying26 hi0 hz0 hz1 hz2 rfl (by decide) _ lr (intR (rowG rows v)) rfl (HRW.out.alloc _) ⟨wx.heap.size, 0, none⟩ 1 1 [.int .i64 (p : Int)] rfl rfl (news_at (cs := [.int .i64 (p : Int)]) rfl) (by simp [Value.oneCell']) (by decide) ?c3 ?c4 ?c5 _ rfl ?_)
          case c3 => unfold maxLen; omega
          case c4 => omega
          case c5 => first | omega | (simp; omega)
          intro g9 cap9 w9 hown9 hgr9 hat9 hlt9
          have hs9 := hgr9.size
          rw [World.size_alloc] at hs9
          have hob : some o ≠ (Value.slice ua lr uc).ownBlock := fun e => HAP.out o e.symm rfl
          have hc9 : w9.cell? ⟨o, v, none⟩ = some (.slice ua lr uc) := (World.cell?_of_block ((hgr9.block o (by rw [World.size_alloc]; omega) hob).trans (Below.heap_alloc _ _ _ hol))).trans hco
          have hf9 : w9.frozen? ⟨o, v, none⟩ = false := (World.frozen?_of_block ((hgr9.block o (by rw [World.size_alloc]; omega) hob).trans (Below.heap_alloc _ _ _ hol))).trans hfo
          have hol9 : o < w9.heap.size := by omega
          have HG9 : Hid (Grd (w9.setCell ⟨o, v, none⟩ (.slice (some ⟨g9, 0, none⟩) (lr + 1) cap9)) B (.slice (some ⟨o, 0, none⟩) rl wc) (vs.set v (.slice (some ⟨g9, 0, none⟩) (lr + 1) cap9)) (rows.set v (rowG rows v ++ [(p : Int)]))) := by
            have hl9 : (rowG rows v ++ [(p : Int)]).length = lr + 1 := by rw [List.length_append, HLR.out]; rfl
            have hp := HG.out.put (W := wx.alloc (.cells #[.int .i64 (p : Int)] 3)) (w9 := w9) (i := v) (o := o) (n := rl) (cap := wc) (g := g9) (c := cap9) (r := rowG rows v ++ [(p : Int)]) (by rw [HRL.out]; exact hvr) (by rw [HRL.out]) ((Below.refl _ wx).alloc (Nat.le_refl _) _) (by rw [HU.out]; exact hgr9) (by rw [hl9]; simpa [intR] using hown9) (by rw [HU.out, World.size_alloc]; exact hat9)
            rw [hl9, HRL.out] at hp
            exact hp
          have HB9 : Hid (Below B w1 (w9.setCell ⟨o, v, none⟩ (.slice (some ⟨g9, 0, none⟩) (lr + 1) cap9))) := ((HB.out.alloc hBx _).grown hgr9 (by rw [World.size_alloc]; omega) fun r hr => (HLU.out r hr).1).setCell (p := ⟨o, v, none⟩) ho1 _
          clear hown9 hgr9 hat9
          go_wp2_with fail
          go_roundw
          case rel => exact ⟨p + 1, _, _, by omega, by go_num, HJ2, HG9, HB9⟩
          case measure => simp [intOf]; omega
    · have hpm : p = m := by omega
      have hge : ¬ ((p : Int) < (m : Int)) := by omega
      have hW := HW.out
      rw [hpm, ← HLL.out] at hW
      have hdone := hW.done
      rw [← HWL.out] at hdone
      subst hdone
      obtain ⟨a, cc, e, hgi⟩ := HG.out.read HSZ.out.1 HSZ.out.2
      subst e
      have HGI := Lib.hid hgi
      have HRB : Hid (Below w.heap.size w wr) := HB1.out.trans (HB.out.mono hwB)
      clear hpm hW hgi
      go_wp2_with fail
      go_ret
      first | exact ⟨HRB.out, _, _, rfl, HGI.out⟩ | exact ⟨HRB.out, _, ⟨_, rfl⟩, HGI.out⟩ | (trace_state; sorry)

end Go.Proofs.Ytdbjmonboecfgaa
