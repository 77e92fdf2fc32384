/- Contract of package play's tasksOf. -/
import Derived.Test.YtpfcpeljfgmjgaaDoorZpa
import Derived.Test.YtpfcpeljfgmjgaaDoorZpn
import Derived.Deep.AppendLies
namespace Go.Proofs.YtpfcpeljfgmjgaaDoor
open Go.RowKit
set_option linter.unusedVariables false
set_option linter.unusedSimpArgs false

theorem Tryd.ptaskInfo : (Tryd.prog.info? 81).map (fun i => (i.zero, i.size, i.bytes)) = some (some (.agg #[.int .i64 0, .int .i64 0, .int .i64 0, .int .i64 0, .int .i64 0, .int .i64 0, .int .i64 0, .int .i64 0, .bool false, .int .i64 0]), 10, 80) := by kernel_rfl

theorem At.three {w : World} {b off i : Nat} {os : List O3} {q : O3} (h : At 3 w b off (os.map o3)) (hq : os[i]? = some q) : w.cell? ⟨b, off + i * 3, none⟩ = some (.int .i64 q.1) ∧ w.cell? ⟨b, off + i * 3 + 1, none⟩ = some (.int .i64 q.2.1) ∧ w.cell? ⟨b, off + i * 3 + 2, none⟩ = some (.int .i64 q.2.2) := by
  have hx : (os.map o3)[i]? = some (o3 q) := by rw [List.getElem?_map, hq]; rfl
  exact ⟨h i _ hx 0 _ rfl, h i _ hx 1 _ rfl, h i _ hx 2 _ rfl⟩

set_option maxRecDepth 100000 in
set_option maxHeartbeats 2000000 in
theorem tasks_any (a : Option Addr) (la ca : Nat) (os : List O3) (n : Nat) (w : World) {lo hi : Nat} (hx : OpsRow lo hi w a la os) (hhi : hi ≤ w.heap.size) (hm : la ≤ 1000000) :
    Calls Tryd.prog 67 #[.slice a la ca, .int .i64 (n : Int)] w fun e w' => ∃ v, e = .returned v ∧ w'.ownsRow w.heap.size 81 10 v (valid n os).length (cellsK (valid n os)) ∧ Below w.heap.size w w' := by
  obtain ⟨i0, hi0, hz0, hz1, hz2⟩ := info_parts Tryd.ptaskInfo
  have HX := Lib.hid hx
  have HL : Hid (os.length = la) := Lib.hid (by have := hx.1; simpa using this)
  clear hx
  go_enter Tryd.func67, Tryd.ntmps67
  go_wp2_with fail
  go_loopw [5, 12] (fun lv iv wr => ∃ (k m : Nat), k ≤ la ∧ iv = .int .i64 (k : Int) ∧ m ≤ la ∧ wr.ownsRow w.heap.size 81 10 lv m (cellsK (valid n (os.take k))) ∧ Hid (m = (valid n (os.take k)).length) ∧ Below w.heap.size w wr) (fun _ iv _ => la - (intOf iv).toNat)
  case atStart => exact ⟨0, 0, Nat.zero_le _, rfl, Nat.zero_le _, World.ownsRow_nil _ _ _ _, rfl, Below.refl _ _⟩
  case round =>
    obtain ⟨k, m, hk, rfl, hml, hown, hm', hb⟩ := hrel
    have sr := hb.size
    by_cases hlt : k < la
    · obtain ⟨b, off, rfl, _, hbb, hc⟩ := HX.out.at (by omega)
      obtain ⟨q, hq⟩ : ∃ q, os[k]? = some q := ⟨_, List.getElem?_eq_getElem (by have := HL.out; omega)⟩
      obtain ⟨c0, c1, c2⟩ := hc.three hq
      have d0 := (hb.cell (p := ⟨b, off + k * 3, none⟩) (show b < w.heap.size by omega)).trans c0
      have d1 := (hb.cell (p := ⟨b, off + k * 3 + 1, none⟩) (show b < w.heap.size by omega)).trans c1
      have d2 := (hb.cell (p := ⟨b, off + k * 3 + 2, none⟩) (show b < w.heap.size by omega)).trans c2
      have hbw : b < wr.heap.size := by omega
      have ht : os.take (k + 1) = os.take k ++ [q] := by rw [List.take_add_one, hq]; rfl
      have hv := valid_snoc n (os.take k) q
      rw [← ht] at hv
      obtain ⟨ok, ox, oy⟩ := q
      dsimp only at d0 d1 d2 hv
      have HB := Lib.hid hb
      have HOWN := Lib.hid hown
      clear hc hq c0 c1 c2 hb hown ht
      by_cases ho : okB ok ox oy n
      · rw [if_pos ho] at hv
        have HBT : Hid (∀ w', Calls Tryd.prog 95 #[.agg #[.int .i64 ok, .int .i64 ox, .int .i64 oy], .int .i64 n] w' fun e w'' => e = .returned (.tuple #[.agg #[.int .i64 ok, .int .i64 ox, .int .i64 oy, .int .i64 1, .int .i64 ox, .int .i64 oy, .int .i64 0, .int .i64 0, .bool false, .int .i64 0], .bool true]) ∧ Below w'.heap.size w' w'') := fun w' => by
          have := begin_any ok ox oy n w'
          rwa [begT_yes ho, decide_eq_true ho] at this
        have hoc : ocells (toOpn (ok, ox, oy)) = [.int .i64 ok, .int .i64 ox, .int .i64 oy, .int .i64 1, .int .i64 ox, .int .i64 oy, .int .i64 0, .int .i64 0, .bool false, .int .i64 0] := by
          obtain ⟨_, h1, h2, h3⟩ := okB_opn (q := (ok, ox, oy)) ho
          unfold ocells
          rw [h1, h2, h3]
        have HV := Lib.hid hv
        have HOC := Lib.hid hoc
        clear hv hoc ho
        go_wp2_with fail
        refine (HBT.out _).mono ?_
        rintro e w3 ⟨rfl, hb3⟩
        have s3 := hb3.size
        rw [World.size_alloc] at s3
        have hb4 : Hid (Below w.heap.size w w3) := HB.out.trans ((Below.refl wr.heap.size wr).alloc (Nat.le_refl _) _ |>.trans (hb3.mono (by simp)) |>.mono sr)
        have HO3 : Hid (w3.ownsRow w.heap.size 81 10 u5 m (cellsK (valid n (os.take k)))) := ownsRow_below (HOWN.out.alloc _) hb3
        have hnx := Box.new w3 81 [.int .i64 ok, .int .i64 ox, .int .i64 oy, .int .i64 1, .int .i64 ox, .int .i64 oy, .int .i64 0, .int .i64 0, .bool false, .int .i64 0]
        have HN : Hid (∀ (W : World) (q : Nat) (u : Value), ([.int .i64 ok, .int .i64 ox, .int .i64 oy, .int .i64 1, .int .i64 ox, .int .i64 oy, .int .i64 0, .int .i64 0, .bool false, .int .i64 0] : List Value)[q]? = some u → (W.alloc (.cells #[.int .i64 ok, .int .i64 ox, .int .i64 oy, .int .i64 1, .int .i64 ox, .int .i64 oy, .int .i64 0, .int .i64 0, .bool false, .int .i64 0] 81)).cell? (Addr.add ⟨W.heap.size, 0, none⟩ q) = some u) := fun W q u hq =>
          World.news_of_block (w := W.alloc (.cells #[.int .i64 ok, .int .i64 ox, .int .i64 oy, .int .i64 1, .int .i64 ox, .int .i64 oy, .int .i64 0, .int .i64 0, .bool false, .int .i64 0] 81)) (B := W.heap.size) (cs := #[.int .i64 ok, .int .i64 ox, .int .i64 oy, .int .i64 1, .int .i64 ox, .int .i64 oy, .int .i64 0, .int .i64 0, .bool false, .int .i64 0]) (Box.new W 81 [.int .i64 ok, .int .i64 ox, .int .i64 oy, .int .i64 1, .int .i64 ox, .int .i64 oy, .int .i64 0, .int .i64 0, .bool false, .int .i64 0]) q u (by simpa using hq)
        have hb5 : Hid (Below w.heap.size w (w3.alloc (.cells #[.int .i64 ok, .int .i64 ox, .int .i64 oy, .int .i64 1, .int .i64 ox, .int .i64 oy, .int .i64 0, .int .i64 0, .bool false, .int .i64 0] 81))) := hb4.out.alloc (by omega) _
        have HO5 : Hid ((w3.alloc (.cells #[.int .i64 ok, .int .i64 ox, .int .i64 oy, .int .i64 1, .int .i64 ox, .int .i64 oy, .int .i64 0, .int .i64 0, .bool false, .int .i64 0] 81)).ownsRow w.heap.size 81 10 u5 m (cellsK (valid n (os.take k)))) := HO3.out.alloc _
        have HN2 : Hid (∀ (q : Nat) (u : Value), ([.int .i64 ok, .int .i64 ox, .int .i64 oy, .int .i64 1, .int .i64 ox, .int .i64 oy, .int .i64 0, .int .i64 0, .bool false, .int .i64 0] : List Value)[q]? = some u → ((w3.alloc (.cells #[.int .i64 ok, .int .i64 ox, .int .i64 oy, .int .i64 1, .int .i64 ox, .int .i64 oy, .int .i64 0, .int .i64 0, .bool false, .int .i64 0] 81)).alloc (.cells #[.int .i64 ok, .int .i64 ox, .int .i64 oy, .int .i64 1, .int .i64 ox, .int .i64 oy, .int .i64 0, .int .i64 0, .bool false, .int .i64 0] 81)).cell? (Addr.add ⟨w3.heap.size + 1, 0, none⟩ q) = some u) := fun q u hq => by
          have := HN.out (w3.alloc (.cells #[.int .i64 ok, .int .i64 ox, .int .i64 oy, .int .i64 1, .int .i64 ox, .int .i64 oy, .int .i64 0, .int .i64 0, .bool false, .int .i64 0] 81)) q u hq
          rwa [World.size_alloc] at this
        clear hb3 d0 d1 d2 hnx
        go_wp2_with (at_builtin; refine wpList_append_lies _ rfl _ _ 123 rfl w.heap.size 81 i0 (.agg #[.int .i64 0, .int .i64 0, .int .i64 0, .int .i64 0, .int .i64 0, .int .i64 0, .int .i64 0, .int .i64 0, .bool false, .int .i64 0]) 10 80 Tryd.underlying123 hi0 hz0 hz1 hz2 rfl (by decide) _ m (cellsK (valid n (os.take k))) rfl (HO5.out.alloc _) ⟨w3.heap.size + 1, 0, none⟩ 1 1 [.int .i64 ok, .int .i64 ox, .int .i64 oy, .int .i64 1, .int .i64 ox, .int .i64 oy, .int .i64 0, .int .i64 0, .bool false, .int .i64 0] rfl rfl HN2.out ?c2 (by decide) ?c3 ?c4 ?c5 _ rfl ?_)
        case c2 => intro v hv; simp at hv; rcases hv with rfl | rfl | rfl | rfl | rfl | rfl | rfl | rfl | rfl | rfl <;> rfl
        case c3 => unfold maxLen; omega
        case c4 => omega
        case c5 => simp; omega
        intro g cap w9 hown9 hgrow hat hlt9
        have hvb : ∀ q, u5.ownBlock = some q → w.heap.size ≤ q := fun q hq => (HOWN.out.lt q hq).1
        have hb9 : Below w.heap.size w w9 := (hb5.out.alloc (by simp; omega) _).grown hgrow (by simp; omega) hvb
        rw [← HOC.out, ← cellsK_snoc, ← HV.out] at hown9
        clear hgrow hat
        go_wp2_with fail
        go_roundw
        case rel => exact ⟨k + 1, m + 1, by omega, by go_num, (by have := hm'.out; have := valid_length_le n (os.take k); simp at this; omega), hown9, (by show m + 1 = _; rw [HV.out, List.length_append, ← hm'.out]; rfl), hb9⟩
        case measure => simp [intOf]; omega
      · rw [if_neg ho, List.append_nil] at hv
        have HBT : Hid (∀ w', Calls Tryd.prog 95 #[.agg #[.int .i64 ok, .int .i64 ox, .int .i64 oy], .int .i64 n] w' fun e w'' => e = .returned (.tuple #[.agg #[.int .i64 0, .int .i64 0, .int .i64 0, .int .i64 0, .int .i64 0, .int .i64 0, .int .i64 0, .int .i64 0, .bool false, .int .i64 0], .bool false]) ∧ Below w'.heap.size w' w'') := fun w' => by
          have := begin_any ok ox oy n w'
          rwa [begT_no ho, decide_eq_false ho] at this
        have HV := Lib.hid hv
        clear hv ho
        go_wp2_with fail
        refine (HBT.out _).mono ?_
        rintro e w3 ⟨rfl, hb3⟩
        have s3 := hb3.size
        rw [World.size_alloc] at s3
        have hb4 : Hid (Below w.heap.size w w3) := HB.out.trans ((Below.refl wr.heap.size wr).alloc (Nat.le_refl _) _ |>.trans (hb3.mono (by simp)) |>.mono sr)
        have HO3 : Hid (w3.ownsRow w.heap.size 81 10 u5 m (cellsK (valid n (os.take k)))) := ownsRow_below (HOWN.out.alloc _) hb3
        clear hb3 d0 d1 d2
        go_wp2_with fail
        go_roundw
        case rel => exact ⟨k + 1, m, by omega, by go_num, hml, by rw [HV.out]; exact HO3.out.alloc _, by show m = _; rw [HV.out]; exact hm'.out, hb4.out.alloc (by omega) _⟩
        case measure => simp [intOf]; omega
    · obtain rfl : k = la := by omega
      have e : os.take k = os := List.take_of_length_le (by rw [HL.out]; exact Nat.le_refl _)
      rw [e] at hown hm'
      have HM := hm'.out
      subst HM
      go_wp2_with fail
      go_ret
      exact ⟨_, rfl, hown, hb⟩

end Go.Proofs.YtpfcpeljfgmjgaaDoor
