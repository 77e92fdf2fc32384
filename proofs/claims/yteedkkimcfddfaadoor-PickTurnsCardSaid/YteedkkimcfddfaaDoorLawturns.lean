/- The walk of the law PickTurns: it returns true and changes nothing that was there. -/
import Derived.Test.YteedkkimcfddfaaDoorSame
import Derived.Test.YteedkkimcfddfaaDoorTurnm
import Derived.Deep.RegionWith
import Derived.Deep.RegionHeld3
import Derived.Deep.DeepCutAuto
namespace Go.Proofs.YteedkkimcfddfaaDoor
open Go.RowKit

theorem next_nil (en : List Bool) (hon : 0 < (on 0 en).length) (l : Int) (v : Nat) (h : behindI en l = v) : nextI [] 0 l en = v ∧ nextAt [] 0 en = 0 ∧ nextLast [] 0 l en = v := by
  have hne : on 0 en ≠ [] := List.length_pos_iff.1 hon
  simp [nextI, nextAt, nextLast, hne, h]

theorem behind_next' (en : List Bool) (k : Nat) (hk : k < (on 0 en).length) : behindI en ((on 0 en).getD k 0 : Nat) = ((on 0 en).getD ((k + 1) % (on 0 en).length) 0 : Nat) := by
  have hle := take_all_le en k hk
  by_cases h : k + 1 < (on 0 en).length
  · rw [Nat.mod_eq_of_lt h]
    refine behind_found en _ (k + 1) _ h hle rfl ?_
    have hp := on_pairwise en 0
    rw [List.pairwise_iff_getElem] at hp
    have := hp k (k + 1) hk h (by omega)
    rw [List.getD_eq_getElem?_getD, List.getElem?_eq_getElem hk, List.getD_eq_getElem?_getD, List.getElem?_eq_getElem h]
    simpa using this
  · obtain h' : k + 1 = (on 0 en).length := by omega
    rw [h', Nat.mod_self]
    refine behind_round en _ ?_
    rw [h', List.take_of_length_le (Nat.le_refl _)] at hle
    exact hle

theorem behind_turn (en : List Bool) (j0 t : Nat) (h : 0 < (on 0 en).length) : behindI en (turn en j0 t : Nat) = (turn en j0 (t + 1) : Nat) := by
  have hm := Nat.mod_lt (j0 + t) h
  have e := behind_next' en ((j0 + t) % (on 0 en).length) hm
  unfold turn
  rw [e]
  congr 2
  rw [Nat.mod_add_mod]; rfl

theorem Tryd.infob : (Tryd.prog.info? 4).map (fun i => (i.zero, i.size, i.bytes)) = some (some (.bool false), 1, 1) := by kernel_rfl

set_option maxRecDepth 100000 in
set_option maxHeartbeats 4000000 in
theorem turns_main (a : Option Addr) (la ca last : Nat) (en : List Bool) (w : World) (hy : RowB 0 w.heap.size w a la en) (hT : Tab w) (h70 : la ≤ 70) (hlast : last ≤ 255) (hpos : 0 < (on 0 en).length) :
    Calls Tryd.prog 5 #[.slice a la ca, .int .u8 last] w fun e w' => e = .returned (.bool true) ∧ Below w.heap.size w w' := by
  have HT := Lib.hid hT
  have HY := Lib.hid hy
  obtain ⟨i0, hi0, hz0, hz1, hz2⟩ := info_parts Tryd.info3
  obtain ⟨j0, hj0⟩ := behind_first en last hpos
  have HJ := Lib.hid hj0
  clear hT hy hj0
  go_enter Tryd.func5, Tryd.ntmps5
  go_wp2_with fail
  go_loop [5, 6] (fun s i => ∃ k : Nat, k ≤ la ∧ i = .int .i64 k ∧ s = .int .i64 (on 0 (en.take k)).length) (fun _ i => la - (intOf i).toNat)
  case atStart => exact ⟨0, Nat.zero_le _, rfl, rfl⟩
  case round =>
    obtain ⟨k, hk, rfl, rfl⟩ := hrel
    by_cases hlt : k < la
    · obtain ⟨b', off', rfl, _, hbb, hcc⟩ := HY.out.2.resolve_left (by omega)
      have hck := hcc k hlt
      have hol := on_length_le (en.take k) 0
      have htl : (en.take k).length ≤ k := by simp; omega
      have hts := on_take_succ en k (by rw [HY.out.1]; exact hlt)
      clear hcc
      by_cases ht : en.getD k false = true
      · rw [ht] at hck hts
        simp only [if_true] at hts
        have HTS := Lib.hid hts
        clear hts ht
        go_wp2_with fail
        go_round
        case rel => exact ⟨k + 1, by omega, by go_num, by rw [HTS.out, List.length_append]; go_num⟩
        case measure => simp [intOf]; omega
      · have ht : en.getD k false = false := by simpa using ht
        rw [ht] at hck hts
        simp at hts
        have HTS := Lib.hid hts
        clear hts ht
        go_wp2_with fail
        go_round
        case rel => exact ⟨k + 1, by omega, by go_num, by rw [HTS.out]⟩
        case measure => simp [intOf]; omega
    · obtain rfl : k = la := by omega
      have hte : en.take k = en := List.take_of_length_le (by rw [HY.out.1]; exact Nat.le_refl _)
      rw [hte]
      clear hte
      have hcnt : (((on 0 en).length : Int) == 0) = false := beq_eq_false_iff_ne.2 (by omega)
      have hl1 : (on 0 en).length ≤ k := by
        have e1 := on_length_le en 0
        have e2 : en.length = k := HY.out.1
        omega
      have hcl : (on 0 en).length ≤ 70 := by omega
      have hla0 : 0 < k := by omega
      have b9 := Box.new w 24 [.slice none 0 0, .int .i64 0, .int .i64 last]
      have kb9 : Below w.heap.size w (w.alloc (.cells #[.slice none 0 0, .int .i64 0, .int .i64 last] 24)) := by go_grown
      go_wp2_with (at_make; refine wpList_make_full _ rfl _ _ 22 rfl (w.heap.size + 1) 3 i0 (.int .i64 0) 1 Tryd.underlying22 hi0 hz0 hz1 _ _ _ _ k rfl rfl rfl rfl ?m1 ?m2 ?m3 ?_)
      case m1 => first | omega | (rw [hz2]; omega)
      case m2 => unfold maxLen; omega
      all_goals try (case m3 => simp)
      intro w1 hown hgr
      rw [toList_madeCells_one] at hown
      have B9 := b9.grown hgr (by simp)
      have hb1 := kb9.grown hgr (by simp) (by simp)
      have hs1 := hgr.size
      rw [World.size_alloc] at hs1
      clear hgr b9 kb9
      go_wp2_with fail
      go_loopw [11] (fun i wr => ∃ t : Nat, t ≤ 3 * (on 0 en).length ∧ i = .int .i64 t ∧ wr.ownsRow (w.heap.size + 1) 3 1 (.slice (some ⟨w.heap.size + 1, 0, none⟩) k k) k ((cameL en j0 t).map (Value.int .i64)) ∧
          (∃ a3 c3 l, Box wr w.heap.size 24 [.slice a3 0 c3, .int .i64 0, .int .i64 l] ∧ Hid (behindI en l = (turn en j0 t : Nat))) ∧ Below w.heap.size w wr) (fun i _ => 3 * (on 0 en).length - (intOf i).toNat)
      case atStart =>
        refine ⟨0, Nat.zero_le _, rfl, ?_, ⟨_, _, _, B9, HJ.out⟩, hb1⟩
        have e : en.length = k := HY.out.1
        rw [cameL_zero, e]; simpa using hown
      case round =>
        clear hown B9 hb1 hs1
        obtain ⟨t, ht, rfl, hown, ⟨a3, c3, l, B9, hl⟩, hb⟩ := hrel
        have hsz := hb.size
        have hlt0 : w.heap.size + 1 < wr.heap.size := (hown.lt (w.heap.size + 1) rfl).2
        have hlk : en.length = k := HY.out.1
        by_cases hlt : t < 3 * (on 0 en).length
        · obtain ⟨v, hv⟩ : ∃ v, turn en j0 t = v := ⟨_, rfl⟩
          have hvon := turn_on en j0 t hpos
          have hnx := behind_turn en j0 t hpos
          have hn := next_nil en hpos l v (by rw [← hv]; exact hl.out)
          have hset := cameL_set en j0 t
          rw [hv] at hvon hnx hset
          have hcle := came_le en j0 v t
          have hvk : v < k := by omega
          obtain ⟨cm, hcm⟩ : ∃ cm, came en j0 v t = cm := ⟨_, rfl⟩
          have hget := cameL_get en j0 t v (by omega)
          rw [hcm] at hset hcle hget
          obtain ⟨bA, oA, rfl, _, hbA, hcA⟩ := HY.out.2.resolve_left (by omega)
          have hcv := hcA v hvk
          rw [hvon.2] at hcv
          have HNX := Lib.hid hn
          have HBT := Lib.hid hnx
          have HSET := Lib.hid hset
          have hcm210 : cm ≤ 210 := by omega
          have T3 : ∀ W, Sem.run Tryd.prog (Instr.indexAt 25 (.slice (some ⟨bA, oA, none⟩) k ca) (.int .i64 (v:Int))) W = .ok (.pointer (some ⟨bA, oA + v, none⟩)) W := fun W => by go_simp
          have T4 : ∀ W, Sem.run Tryd.prog (Instr.indexAt 22 (.slice (some ⟨w.heap.size + 1, 0, none⟩) k k) (.int .i64 (v:Int))) W = .ok (.pointer (some ⟨w.heap.size + 1, v, none⟩)) W := fun W => by go_simp
          obtain ⟨_, _, _, _, _, _⟩ := B9.three
          clear hv hvon hn hnx hset hcm hcA hlk
          go_wp2_with fail
          refine (Next_any _ _ _ _ _ _ [] en _ _ _ (⟨rfl, .inl rfl⟩ : Row 0 0 wr a3 0 []) (Nat.zero_le _) (by omega) (HY.out.below hb (Nat.le_refl _)) hsz (by omega) (HT.out.below hb HT.out.lt)).mono ?_
          rw [HNX.out.1, HNX.out.2.1, HNX.out.2.2]
          rintro e w3 ⟨a4, c4, rfl, hr4, hb3⟩
          have s3 := hb3.size
          have k3 := (hb.trans (hb3.mono hsz)).alloc (by omega) (.cells #[.slice a4 0 c4, .int .i64 0, .int .i64 v] 24)
          have B93 := (B9.below hb3).alloc (.cells #[.slice a4 0 c4, .int .i64 0, .int .i64 v] 24)
          have B13 := Box.new w3 24 [.slice a4 0 c4, .int .i64 0, .int .i64 v]
          have hc1 := (hb.trans (hb3.mono hsz)).cell (p := ⟨bA, oA + v, none⟩) hbA |>.trans hcv
          have hc2 : w3.cell? ⟨w.heap.size + 1, v, none⟩ = some (.int .i64 cm) := by
            refine ((ownsRow_below hown hb3).cellAt v (by omega)).trans ?_
            rw [List.getElem?_map, hget]; rfl
          have hf2 := (ownsRow_below hown hb3).frozenAt v
          have hst := ((ownsRow_below hown hb3).stored v (.int .i64 ((cm : Int) + 1))).1
          have hmap : ((cameL en j0 t).map (Value.int .i64)).set v (.int .i64 ((cm : Int) + 1)) = (cameL en j0 (t + 1)).map (Value.int .i64) := by
            rw [← List.map_set, HSET.out]
          rw [hmap] at hst
          have HST := Lib.hid hst
          have y1 : bA < w3.heap.size := by omega
          have y2 : w.heap.size < w3.heap.size := by omega
          have y3 : w.heap.size + 1 < w3.heap.size := by omega
          obtain ⟨_, _, _, _, _, _⟩ := (B9.below hb3).three
          clear hst hmap hget hown
          go_wp2_with fail
          go_roundw
          case rel =>
            refine ⟨t + 1, by omega, by go_num, ?_, ⟨a4, c4, v, ?_, HBT.out⟩, ?_⟩
            · exact (ownsRow_setCell_below (ownsRow_setCell_below (ownsRow_setCell_below HST.out (by simp) _) (by simp) _) (by simp) _).alloc _
            · exact ((((B9.below hb3).setOther (by simp) _).set 0 _).set 1 _ |>.set 2 _).alloc _
            · exact (((((hb.trans (hb3.mono hsz)).setCell (by simp) _).setCell (by simp) _).setCell (by simp) _).setCell (by simp) _).alloc (by simp; omega) _
          case measure => simp [intOf]; omega
        · obtain rfl : t = 3 * (on 0 en).length := by omega
          have HO := Lib.hid hown
          clear hown hl
          go_wp2_with fail
          go_loop [14] (fun i => ∃ x : Nat, x ≤ k ∧ i = .int .i64 x) (fun i => k - (intOf i).toNat)
          case atStart => exact ⟨0, Nat.zero_le _, rfl⟩
          case round =>
            obtain ⟨x, hx, rfl⟩ := hrel
            by_cases hxl : x < k
            · obtain ⟨bA, oA, rfl, _, hbA, hcA⟩ := HY.out.2.resolve_left (by omega)
              have hcv := (hb.cell (p := ⟨bA, oA + x, none⟩) hbA).trans (hcA x hxl)
              have T3 : ∀ W, Sem.run Tryd.prog (Instr.indexAt 25 (.slice (some ⟨bA, oA, none⟩) k ca) (.int .i64 (x:Int))) W = .ok (.pointer (some ⟨bA, oA + x, none⟩)) W := fun W => by go_simp
              have T4 : ∀ W, Sem.run Tryd.prog (Instr.indexAt 22 (.slice (some ⟨w.heap.size + 1, 0, none⟩) k k) (.int .i64 (x:Int))) W = .ok (.pointer (some ⟨w.heap.size + 1, x, none⟩)) W := fun W => by go_simp
              have hget := cameL_get en j0 (3 * (on 0 en).length) x (by omega)
              have hc2 : wr.cell? ⟨w.heap.size + 1, x, none⟩ = some (.int .i64 (came en j0 x (3 * (on 0 en).length) : Nat)) := by
                refine (HO.out.cellAt x (by omega)).trans ?_
                rw [List.getElem?_map, hget]; rfl
              have y1 : bA < wr.heap.size := by omega
              clear hcA hget
              by_cases hex : en.getD x false = true
              · rw [came_on en j0 x hex] at hc2
                rw [hex] at hcv
                have HE := Lib.hid hex
                clear hex hlk
                go_wp2_with fail
                go_round
                case rel => exact ⟨x + 1, by omega, by go_num⟩
                case measure => simp [intOf]; omega
              · have hex : en.getD x false = false := by simpa using hex
                rw [came_off en j0 x _ hpos hex] at hc2
                rw [hex] at hcv
                have HE := Lib.hid hex
                clear hex hlk
                go_wp2_with fail
                go_round
                case rel => exact ⟨x + 1, by omega, by go_num⟩
                case measure => simp [intOf]; omega
            · obtain rfl : x = k := by omega
              clear hlk
              go_wp2_with fail
              refine (awake_any _ (HT.out.below hb HT.out.lt)).mono ?_
              rintro e w8 ⟨rfl, hb8⟩
              go_wp2_with fail
              go_ret
              exact ⟨rfl, hb.trans (hb8.mono hsz)⟩

end Go.Proofs.YteedkkimcfddfaaDoor
