/- Make of the statements: a graph by numbers; awake: the document's example. -/
import Derived.Test.YtdbjmonboecfgaaGgo
import Derived.Deep.RegionLaw
import Derived.BigRegion
import Derived.Deep.CutRange
import Derived.Deep.DeepCutAuto
namespace Go.Proofs.Ytdbjmonboecfgaa
open Go.RowKit Go.Maps
set_option linter.unusedVariables false
set_option linter.unusedSimpArgs false

abbrev RowY := RowF (fun n : Nat => Value.int .u8 (n : Int)) (0 : Nat)
/-- A graph of so many nodes, of short rows, whose edges all lead to nodes. -/
def GP (k : Nat) (rows : Gr) : Prop := rows.length = k ∧ ∀ i, (rowG rows i).length ≤ 40 ∧ ∀ y ∈ rowG rows i, 0 ≤ y ∧ y < (k : Int)
structure GPj (k j : Nat) (rows : Gr) : Prop where
  len : rows.length = k
  row : ∀ i, (rowG rows i).length ≤ j ∧ ∀ y ∈ rowG rows i, 0 ≤ y ∧ y < (k : Int)
theorem GPj.zero (k : Nat) : GPj k 0 (List.replicate k []) := by
  have h : ∀ i, rowG (List.replicate k []) i = [] := fun i => by
    unfold rowG; rw [List.getD_eq_getElem?_getD, List.getElem?_replicate]; split <;> rfl
  exact ⟨by simp, fun i => by rw [h]; simp⟩
theorem GPj.put {k j a b : Nat} {rows : Gr} (h : GPj k j rows) (ha : a < k) (hb : b < k) : GPj k (j + 1) (rows.set a (rowG rows a ++ [(b : Int)])) := by
  refine ⟨by simp [h.len], fun i => ?_⟩
  by_cases e : a = i
  · subst e
    rw [rowG_set_self (by rw [h.len]; exact ha)]
    obtain ⟨h1, h2⟩ := h.row a
    refine ⟨by simp; omega, fun y hy => ?_⟩
    rcases List.mem_append.1 hy with hy | hy
    · exact h2 y hy
    · have : y = (b : Int) := by simpa using hy
      omega
  · rw [rowG_set_other e]
    obtain ⟨h1, h2⟩ := h.row i
    exact ⟨by omega, h2⟩
theorem grd_made {w : World} {k : Nat} (hk : k ≤ 1000000) : Grd (w.alloc (.cells (List.replicate k (Value.slice none 0 0)).toArray 26)) w.heap.size (.slice (some ⟨w.heap.size, 0, none⟩) k k) (List.replicate k (Value.slice none 0 0)) (List.replicate k []) := by
  have hv : ∀ i, vg (List.replicate k (Value.slice none 0 0)) i = .slice none 0 0 := fun i => by
    unfold vg; rw [List.getD_eq_getElem?_getD, List.getElem?_replicate]; split <;> rfl
  have hr : ∀ i, rowG (List.replicate k []) i = [] := fun i => by
    unfold rowG; rw [List.getD_eq_getElem?_getD, List.getElem?_replicate]; split <;> rfl
  refine ⟨?_, fun i hi => by rw [hv, hr]; exact World.ownsRow_nil _ _ _ _, fun i hi q hq => (by rw [hv] at hq; cases hq), fun i j _ hi hj q hq => (by rw [hv] at hq; cases hq)⟩
  rw [List.length_replicate]
  exact ⟨by simp, .inr ⟨w.heap.size, k, _, rfl, Nat.le_refl _, alloc_at w _, Nat.le_refl _, by unfold maxLen; omega, by simp, by simp⟩⟩

set_option maxRecDepth 100000 in
set_option maxHeartbeats 16000000 in
theorem make_any (a : Option Addr) (l c : Nat) (xs : List Nat) (kn : Nat) (w : World) {hi : Nat} (hkn : kn ≤ 255) (hx : RowY 0 hi w a l xs) (hhi : hi ≤ w.heap.size) (hb : ∀ i, i < l → xs.getD i 0 ≤ 255) :
    Calls Try.prog 9 #[.slice a l c, .int .u8 (kn : Int)] w fun e w' => Below w.heap.size w w' ∧ ∃ a' c' rows, e = .returned (.slice a' (kn % 16) c') ∧ GI w'.heap.size w' a' (kn % 16) rows ∧ GP (kn % 16) rows := by
  obtain ⟨i0, hi0, hz0, hz1, hz2⟩ := info_parts Try.info3
  obtain ⟨j0, hj0, hy0, hy1, hy2⟩ := info_parts Try.gRowInfo
  obtain ⟨k, hk⟩ : ∃ k, kn % 16 = k := ⟨_, rfl⟩
  have hk16 : k < 16 := by omega
  have em1 : (kn : Int) % 16 = (k : Int) := by omega
  have em2 : (kn : Int).tmod 16 = (k : Int) := by rw [Int.tmod_eq_emod_of_nonneg (by omega)]; exact em1
  rw [hk]
  have hmk : (Instr.makeSlice 23 (.int .i64 (k : Int)) (.int .i64 (k : Int))).run Try.prog w = .ok (.slice (some ⟨w.heap.size, 0, none⟩) k k) (w.alloc (.cells (List.replicate k (Value.slice none 0 0)).toArray 26)) := by
    have h := run_make (P := Try.prog) w 23 26 j0 (.slice none 0 0) Try.underlying23 hj0 hy0 .i64 .i64 (k : Int) (k : Int) (by omega) (by omega) (by rw [hy2]; omega) (by omega)
    rw [hy1] at h
    have hm : madeCells (Value.slice none 0 0).cells (((k : Nat) : Int).toNat * 1) = (List.replicate k (Value.slice none 0 0)).toArray := by
      apply Array.ext'
      have := toList_madeCells_one (Value.slice none 0 0) k
      rw [show (Value.slice none 0 0).cells = #[Value.slice none 0 0] from rfl]
      simpa using this
    rw [hm] at h
    simpa using h
  obtain ⟨w1, hw1⟩ : ∃ w1, w.alloc (.cells (List.replicate k (Value.slice none 0 0)).toArray 26) = w1 := ⟨_, rfl⟩
  have HG0 : Hid (Grd w1 w.heap.size (.slice (some ⟨w.heap.size, 0, none⟩) k k) (List.replicate k (Value.slice none 0 0)) (List.replicate k [])) := by rw [← hw1]; exact grd_made (by omega)
  have HB0 : Hid (Below w.heap.size w w1) := by show Below _ _ _; rw [← hw1]; exact (Below.refl _ _).alloc (Nat.le_refl _) _
  rw [hw1] at hmk
  obtain ⟨o, ho⟩ : ∃ o, w.heap.size = o := ⟨_, rfl⟩
  rw [ho] at hmk HG0 HB0
  have HO := Lib.hid ho
  have HP0 := Lib.hid (GPj.zero k)
  have HX := Lib.hid hx
  have HBD := Lib.hid hb
  have hho : hi ≤ o := by omega
  clear hw1 hj0 hy0 hy1 hy2 ho hx hb hk
  go_enter Try.func9, Try.ntmps9
  go_wp2_with fail
  go_loopw [7] (fun iv wr => ∃ (j : Nat) (rows : Gr) (vs : List Value), j ≤ 40 ∧ iv = .int .i64 ((2 * j : Nat) : Int) ∧ Hid (GPj k j rows) ∧ Hid (Grd wr o (.slice (some ⟨o, 0, none⟩) k k) vs rows) ∧ Hid (Below o w wr)) (fun iv _ => 100 - (intOf iv).toNat)
  case atStart => exact ⟨0, _, _, by omega, rfl, HP0, HG0, HB0⟩
  case round =>
    clear HP0 HG0 HB0 hmk
    obtain ⟨j, rows, vs, hj, rfl, HP, HG, HB⟩ := hrel
    obtain ⟨i, hi2⟩ : ∃ i, 2 * j = i := ⟨_, rfl⟩
    rw [hi2]
    have HI2 := Lib.hid hi2
    have hi100 : i ≤ 80 := by omega
    clear hi2
    have hol := (ownsRow_lo HG.out.own o rfl).2
    by_cases h1 : i + 1 < l
    · have h1i : (i : Int) + 1 < (l : Int) := by omega
      by_cases h2 : i < 80
      · by_cases h3 : 0 < k
        · have hX := HX.out.below HB.out hho
          obtain ⟨hxl, hxz⟩ := hX
          obtain ⟨nb, no, rfl, _, hnb, hxc⟩ := hxz.resolve_left (by omega)
          obtain ⟨x, hxe⟩ : ∃ x, xs.getD i 0 = x := ⟨_, rfl⟩
          obtain ⟨y, hye⟩ : ∃ y, xs.getD (i + 1) 0 = y := ⟨_, rfl⟩
          have c1 := hxc i (by omega)
          have c2 := hxc (i + 1) h1
          rw [hxe] at c1
          rw [hye] at c2
          have hx5 : x ≤ 255 := by rw [← hxe]; exact HBD.out i (by omega)
          have hy5 : y ≤ 255 := by rw [← hye]; exact HBD.out (i + 1) h1
          obtain ⟨x1, hx1⟩ : ∃ x1, x % k = x1 := ⟨_, rfl⟩
          obtain ⟨y1, hy1⟩ : ∃ y1, y % k = y1 := ⟨_, rfl⟩
          have hx1k : x1 < k := by rw [← hx1]; exact Nat.mod_lt _ h3
          have hy1k : y1 < k := by rw [← hy1]; exact Nat.mod_lt _ h3
          have ex1 : (x : Int) % (k : Int) = (x1 : Int) := by rw [← hx1]; exact (Int.natCast_emod x k).symm
          have ey1 : (y : Int) % (k : Int) = (y1 : Int) := by rw [← hy1]; exact (Int.natCast_emod y k).symm
          have ex2 : (x : Int).tmod (k : Int) = (x1 : Int) := by rw [Int.tmod_eq_emod_of_nonneg (by omega)]; exact ex1
          have ey2 : (y : Int).tmod (k : Int) = (y1 : Int) := by rw [Int.tmod_eq_emod_of_nonneg (by omega)]; exact ey1
          have ek0 : ((k : Int) == 0) = false := by simp; omega
          have ek1 : ¬ (k = 0) := by omega
          have ex3 : IntKind.i64.wrap (x1 : Int) = (x1 : Int) := IntWalk.i64_in _ (by omega)
          have ey3 : IntKind.i64.wrap (y1 : Int) = (y1 : Int) := IntWalk.i64_in _ (by omega)
          have ex4 : IntKind.i64.wrap (x : Int) = (x : Int) := IntWalk.i64_in _ (by omega)
          have ey4 : IntKind.i64.wrap (y : Int) = (y : Int) := IntWalk.i64_in _ (by omega)
          have hnb1 : nb < wr.heap.size := by omega
          have hG := HG.out
          have hlen := HP.out.len
          obtain ⟨u, hu⟩ : ∃ u, vg vs x1 = u := ⟨_, rfl⟩
          have hco := hG.own.cells (g := o) rfl x1 (vg vs x1) (by simp [vg, List.getD, show x1 < vs.length by rw [hG.len, hlen]; exact hx1k])
          rw [Addr.add_lit, Nat.zero_add, hu] at hco
          have hfo : wr.frozen? ⟨o, x1, none⟩ = false := by have h9 := hG.own; rw [hlen] at h9; exact h9.frozenAt x1
          have hrw := hG.row x1 (by rw [hlen]; exact hx1k)
          rw [hu] at hrw
          obtain ⟨lr, hlr⟩ : ∃ lr, (rowG rows x1).length = lr := ⟨_, rfl⟩
          rw [hlr] at hrw
          have hlrn : lr ≤ 40 := by rw [← hlr]; have := (HP.out.row x1).1; omega
          obtain ⟨ua, uc, rfl⟩ := own_shape hrw
          have T1 : ∀ W, Sem.run Try.prog (Instr.indexAt 22 (.slice (some ⟨nb, no, none⟩) l c) (.int .i64 (i : Int))) W = .ok (.pointer (some ⟨nb, no + i, none⟩)) W := fun W => by
            have : (i : Int) < (l : Int) := by omega
            go_simp
          obtain ⟨i1, hi1⟩ : ∃ i1, i + 1 = i1 := ⟨_, rfl⟩
          have hwi : IntKind.i64.wrap ((i : Int) + 1) = (i1 : Int) := by rw [← hi1]; exact IntWalk.i64_in _ (by omega)
          rw [hi1] at c2
          have hi1l : i1 < l := by omega
          have T2 : ∀ W, Sem.run Try.prog (Instr.indexAt 22 (.slice (some ⟨nb, no, none⟩) l c) (.int .i64 (i1 : Int))) W = .ok (.pointer (some ⟨nb, no + i1, none⟩)) W := fun W => by go_simp
          have T3 : ∀ W, Sem.run Try.prog (Instr.indexAt 23 (.slice (some ⟨o, 0, none⟩) k k) (.int .i64 (x1 : Int))) W = .ok (.pointer (some ⟨o, x1, none⟩)) W := fun W => by go_simp
          have HRW := Lib.hid hrw
          have HLR := Lib.hid hlr
          have HU := Lib.hid hu
          have HLO := Lib.hid (ownsRow_lo hrw)
          have HPP := Lib.hid (HP.out.put hx1k hy1k)
          have HLEN := Lib.hid hlen
          have hsz := HB.out.size
          have hob : some o ≠ (Value.slice ua lr uc).ownBlock := fun e => hG.ap x1 (by rw [hlen]; exact hx1k) o (by rw [hu]; exact e.symm) rfl
          have HKC : Hid (∀ W W9 : World, Below wr.heap.size wr W → W.grownBy W9 (Value.slice ua lr uc).ownBlock → W9.cell? ⟨nb, no + i, none⟩ = some (.int .u8 (x : Int)) ∧ W9.cell? ⟨o, x1, none⟩ = some (.slice ua lr uc) ∧ W9.frozen? ⟨o, x1, none⟩ = false ∧ o < W9.heap.size ∧ nb < W9.heap.size ∧ o ≤ W.heap.size) := fun W W9 h4 h5 => by
            have s1 := h4.size
            have s2 := h5.size
            refine ⟨(World.cell?_of_block (h5.block nb (by omega) (fun e => by have := (HLO.out nb e.symm).1; omega))).trans ((h4.cell (p := ⟨nb, no + i, none⟩) hnb1).trans c1), (World.cell?_of_block (h5.block o (by omega) hob)).trans ((h4.cell (p := ⟨o, x1, none⟩) hol).trans hco), (World.frozen?_of_block (h5.block o (by omega) hob)).trans ((h4.frozen (p := ⟨o, x1, none⟩) hol).trans hfo), by omega, by omega, by omega⟩
          have HW1 : Hid (∀ W : World, Below wr.heap.size wr W → o ≤ W.heap.size) := fun W h4 => by have := h4.size; omega
          have HQ1 : Hid (lr + 1 ≤ maxLen) := by show _ ≤ _; unfold maxLen; omega
          have HQ2 : Hid ((lr + 1) * 8 ≤ 140737488355328) := by show _ ≤ _; omega
          have HONE : Hid (∀ u ∈ [Value.int .i64 (y1 : Int)], u.oneCell' = true) := by
            intro u hu; simp at hu; rcases hu with rfl; rfl
          have HF : Hid (∀ (W W9 : World) (g9 cap9 : Nat), Below wr.heap.size wr W → W.grownBy W9 (Value.slice ua lr uc).ownBlock → W9.ownsRow o 3 1 (.slice (some ⟨g9, 0, none⟩) (lr + 1) cap9) (lr + 1) (intR (rowG rows x1) ++ [.int .i64 (y1 : Int)]) → ((Value.slice ua lr uc).ownBlock = some g9 ∨ g9 = W.heap.size) → (∃ vs', Grd (W9.setCell ⟨o, x1, none⟩ (.slice (some ⟨g9, 0, none⟩) (lr + 1) cap9)) o (.slice (some ⟨o, 0, none⟩) k k) vs' (rows.set x1 (rowG rows x1 ++ [(y1 : Int)]))) ∧ Below o w (W9.setCell ⟨o, x1, none⟩ (.slice (some ⟨g9, 0, none⟩) (lr + 1) cap9))) := fun W W9 g9 cap9 h4 h5 h6 h7 => by
            have hl9 : (rowG rows x1 ++ [(y1 : Int)]).length = lr + 1 := by rw [List.length_append, hlr]; rfl
            have hp := HG.out.put (W := W) (w9 := W9) (i := x1) (o := o) (n := k) (cap := k) (g := g9) (c := cap9) (r := rowG rows x1 ++ [(y1 : Int)]) (by rw [hlen]; exact hx1k) rfl h4 (by rw [hu]; exact h5) (by rw [hl9]; simpa [intR] using h6) (by rw [hu]; exact h7)
            rw [hl9] at hp
            have s1 := h4.size
            exact ⟨⟨_, hp⟩, ((HB.out.trans (h4.mono (Nat.le_of_lt hol))).grown h5 (by omega) fun p hp => (HLO.out p hp).1).setCell (p := ⟨o, x1, none⟩) (Nat.le_refl _) _⟩
          clear hG hrw hlr hu hxc hxz hxl hxe hye hx1 hy1 hlen
          go_upto_region 6 with fail
          go_region_law ((refine step_append_lies _ rfl _ _ _ rfl o 3 i0 (.int .i64 0) 1 8 Try.underlying26 hi0 hz0 hz1 hz2 rfl (by decide) (.slice ua lr uc) lr (intR (rowG rows x1)) rfl (by first | exact (HRW.out.alloc _).drew | exact HRW.out.alloc _) _ 1 1 [.int .i64 (y1 : Int)] rfl rfl (by first | exact one_news (box_one wr _ _) | exact one_news (box_one wr _ _).drew) HONE.out (by decide) HQ1.out HQ2.out (HW1.out _ (by repeat (first | with_reducible exact Below.refl _ _ | with_reducible refine Below.drew ?_ | with_reducible refine below_alloc ?_ (Nat.le_refl _) _))) _ rfl ?_; intro g9 cap9 w9 hown9 hgr9 hat9 hlt9; obtain ⟨r1, r2, r3, r4, r5, r6⟩ := HKC.out _ _ (by repeat (first | with_reducible exact Below.refl _ _ | with_reducible refine Below.drew ?_ | with_reducible refine below_alloc ?_ (Nat.le_refl _) _)) hgr9))
          all_goals (
            have hF := Lib.hid (HF.out _ _ _ _ (by repeat (first | with_reducible exact Below.refl _ _ | with_reducible refine Below.drew ?_ | with_reducible refine below_alloc ?_ (Nat.le_refl _) _)) hgr9 hown9 hat9)
            clear hown9 hgr9 hat9 r1 r2 r3 r4 r5 r6
            go_wp2_with fail
            obtain ⟨⟨vs', hG'⟩, hB'⟩ := hF.out
            have HG' := Lib.hid hG'
            have HB' := Lib.hid hB'
            clear hG' hB' hF
            go_roundw
            (case rel => have hi2 := HI2.out; exact ⟨j + 1, _, _, by omega, by go_num, HPP, HG', HB'⟩)
            (case measure => simp [intOf]; omega))
        · have hk0 : k = 0 := by omega
          have hG := HG.out
          have hlen := HP.out.len
          have hrd := hG.read (by omega) (fun q => by have := (HP.out.row q).1; omega)
          obtain ⟨av, cv, e, hgi⟩ := hrd
          injection e with e1 e2 e3
          subst e1
          subst e3
          rw [hlen] at hgi
          have HGI := Lib.hid hgi
          have HGP : Hid (GP _ rows) := ⟨hlen, fun q => ⟨by have := (HP.out.row q).1; omega, (HP.out.row q).2⟩⟩
          clear hG hgi
          go_wp2_with fail
          go_ret
          have hB := HB.out
          rw [← HO.out] at hB
          first | exact ⟨hB, some ⟨o, 0, none⟩, 0, rows, by rw [hk0]; rfl, HGI.out, HGP.out⟩ | exact ⟨hB, _, _, rows, rfl, HGI.out, HGP.out⟩ | exact ⟨hB, _, ⟨_, rfl⟩, rows, HGI.out, HGP.out⟩ | exact ⟨hB, _, _, ⟨rfl, rows, HGI.out, HGP.out⟩⟩ | exact ⟨hB, _, ⟨_, rfl⟩, ⟨rows, HGI.out, HGP.out⟩⟩ | (trace_state; sorry)
      · have h2i : decide ((i : Int) < 80) = false := decide_eq_false (by omega)
        have h2k : decide (i < 80) = false := decide_eq_false h2
        clear h2
        have hG := HG.out
        have hlen := HP.out.len
        have hrd := hG.read (by omega) (fun q => by have := (HP.out.row q).1; omega)
        obtain ⟨av, cv, e, hgi⟩ := hrd
        injection e with e1 e2 e3
        subst e1
        subst e3
        rw [hlen] at hgi
        have HGI := Lib.hid hgi
        have HGP : Hid (GP _ rows) := ⟨hlen, fun q => ⟨by have := (HP.out.row q).1; omega, (HP.out.row q).2⟩⟩
        clear hG hgi
        go_wp2_with fail
        go_ret
        have hB := HB.out
        rw [← HO.out] at hB
        first | exact ⟨hB, _, _, rows, rfl, HGI.out, HGP.out⟩ | exact ⟨hB, _, ⟨_, rfl⟩, rows, HGI.out, HGP.out⟩ | exact ⟨hB, _, _, ⟨rfl, rows, HGI.out, HGP.out⟩⟩ | exact ⟨hB, _, ⟨_, rfl⟩, ⟨rows, HGI.out, HGP.out⟩⟩ | (trace_state; sorry)
    · have h1i : decide ((i : Int) + 1 < (l : Int)) = false := decide_eq_false (by omega)
      have h1k : decide (i + 1 < l) = false := decide_eq_false h1
      clear h1
      have hG := HG.out
      have hlen := HP.out.len
      have hrd := hG.read (by omega) (fun q => by have := (HP.out.row q).1; omega)
      obtain ⟨av, cv, e, hgi⟩ := hrd
      injection e with e1 e2 e3
      subst e1
      subst e3
      rw [hlen] at hgi
      have HGI := Lib.hid hgi
      have HGP : Hid (GP _ rows) := ⟨hlen, fun q => ⟨by have := (HP.out.row q).1; omega, (HP.out.row q).2⟩⟩
      clear hG hgi
      go_wp2_with fail
      go_ret
      have hB := HB.out
      rw [← HO.out] at hB
      first | exact ⟨hB, _, _, rows, rfl, HGI.out, HGP.out⟩ | exact ⟨hB, _, ⟨_, rfl⟩, rows, HGI.out, HGP.out⟩ | exact ⟨hB, _, _, ⟨rfl, rows, HGI.out, HGP.out⟩⟩ | exact ⟨hB, _, ⟨_, rfl⟩, ⟨rows, HGI.out, HGP.out⟩⟩ | (trace_state; sorry)

end Go.Proofs.Ytdbjmonboecfgaa
