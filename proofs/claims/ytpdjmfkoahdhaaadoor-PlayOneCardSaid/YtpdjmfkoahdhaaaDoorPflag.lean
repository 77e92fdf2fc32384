/- Contracts of package play's flags, may. -/
import Derived.Test.YtpdjmfkoahdhaaaDoorPrep
namespace Go.Proofs.YtpdjmfkoahdhaaaDoor
open Go.RowKit
set_option linter.unusedVariables false
set_option linter.unusedSimpArgs false

theorem Tryd.boolInfo : (Tryd.prog.info? 4).map (fun i => (i.zero, i.size, i.bytes)) = some (some (.bool false), 1, 1) := by kernel_rfl

theorem flags_upd (l : List Bool) (k : Nat) (h : k < l.length) : ((l.take k ++ List.replicate (l.length - k) false).map Value.bool).set k (.bool (l.getD k false)) = (l.take (k + 1) ++ List.replicate (l.length - (k + 1)) false).map Value.bool := by
  rw [← List.map_set]
  congr 1
  have hg : l.take (k + 1) = l.take k ++ [l.getD k false] := by
    rw [List.take_add_one, List.getElem?_eq_getElem h]; simp [List.getD, h]
  have e : l.length - k = (l.length - (k + 1)) + 1 := by omega
  rw [hg, List.set_append_right _ _ (by simp; omega)]
  have e2 : k - (l.take k).length = 0 := by simp; omega
  rw [e2, e, List.replicate_succ, List.set_cons_zero, List.append_assoc]
  rfl

theorem flags_any (l : List Bool) (n : Nat) (w : World) (hl : l.length = n) (h : n ≤ 64) :
    Calls Tryd.prog 43 #[.int .u64 (wd l : Nat), .int .i64 (n : Int)] w fun e w' => ∃ a c, e = .returned (.slice a n c) ∧ RowB w.heap.size w'.heap.size w' a n l ∧ Below w.heap.size w w' := by
  obtain ⟨i0, hi0, hz0, hz1, hz2⟩ := info_parts Tryd.boolInfo
  have HL := Lib.hid hl
  clear hl
  have HH := fun (i : Nat) (w : World) (hi : i < 64) => has_any l i w (by have := HL.out; omega) hi
  obtain ⟨x, hx⟩ : ∃ x, wd l = x := ⟨_, rfl⟩
  rw [hx] at HH ⊢
  clear hx
  go_enter Tryd.func43, Tryd.ntmps43
  go_wp2_with (at_make; refine wpList_make_full _ rfl _ _ 78 rfl w.heap.size 4 i0 (.bool false) 1 Tryd.underlying78 hi0 hz0 hz1 _ _ _ _ n rfl rfl rfl rfl ?m1 ?m2 ?m3 ?_)
  case m1 => rw [hz2]; omega
  case m2 => unfold maxLen; omega
  case m3 => simp
  intro w1 hown hgr
  rw [toList_madeCells_one] at hown
  have hb1 : Below w.heap.size w w1 := (Below.refl _ _).grown hgr (Nat.le_refl _) (by simp)
  clear hgr
  go_wp2
  go_loopw [11] (fun i wr => ∃ k : Nat, k ≤ n ∧ i = .int .i64 k ∧ wr.ownsRow w.heap.size 4 1 (.slice (some ⟨w.heap.size, 0, none⟩) n n) n ((l.take k ++ List.replicate (n - k) false).map Value.bool) ∧ Below w.heap.size w wr) (fun i _ => n - (intOf i).toNat)
  case atStart => exact ⟨0, Nat.zero_le _, rfl, by simpa using hown, hb1⟩
  case round =>
    clear hown hb1
    obtain ⟨k, hk, rfl, hown, hb⟩ := hrel
    by_cases hlt : k < n
    · have hsz : w.heap.size < wr.heap.size := (hown.lt w.heap.size rfl).2
      have hcl : ∃ v0, wr.cell? ⟨w.heap.size, k, none⟩ = some v0 := by
        refine ⟨_, (hown.cellAt k (by omega)).trans (List.getElem?_eq_getElem (by have := HL.out; simp; omega))⟩
      obtain ⟨v0, hcl⟩ := hcl
      have hfl := hown.frozenAt k
      have hnew := (hown.stored k (.bool (l.getD k false))).1
      rw [← HL.out, flags_upd l k (by rw [HL.out]; exact hlt), HL.out] at hnew
      have HNEW := Lib.hid hnew
      have HB := Lib.hid hb
      have hk64 : k < 64 := by omega
      clear hnew hown hb
      obtain ⟨b, hbb⟩ : ∃ b, l.getD k false = b := ⟨_, rfl⟩
      have HHk : Hid (∀ W, Calls Tryd.prog 37 #[.int .u64 (x : Int), .int .i64 (k : Int)] W fun e w' => e = .returned (.bool b) ∧ W = w') := fun W => by rw [← hbb]; exact HH k W hk64
      rw [hbb] at HNEW
      clear hbb
      go_wp2_with (first | (go_at_call 37; (with_reducible refine (HHk.out _).mono ?_); rintro e w' ⟨rfl, rfl⟩))
      go_roundw
      case rel => exact ⟨k + 1, by omega, by go_num, HNEW.out, (HB.out.setCell (Nat.le_refl _) _)⟩
      case measure => simp [intOf]; omega
    · obtain rfl : k = n := by omega
      go_wp2_with fail
      go_ret
      have e : l.take k ++ List.replicate (k - k) false = l := by rw [← HL.out]; simp
      rw [e] at hown
      obtain ⟨a1, c1, h1, h2⟩ := RowF.of_owns (f := Value.bool) (d := false) (xs := l) (by rw [HL.out]; exact hown)
      rw [HL.out] at h1 h2
      exact ⟨_, _, by rw [← h1]; rfl, h2, hb⟩

/-- How many operations there are in all. -/
def opsN (ss : List (List O3)) : Nat := (ss.map List.length).sum
theorem opsN_take (ss : List (List O3)) (k : Nat) (s : List O3) (h : ss[k]? = some s) : opsN (ss.take (k + 1)) = opsN (ss.take k) + s.length := by
  unfold opsN; rw [List.take_add_one, h]; simp
theorem opsN_le (ss : List (List O3)) (k : Nat) : opsN (ss.take k) ≤ opsN ss := by
  unfold opsN
  conv => rhs; rw [← List.take_append_drop k ss]
  rw [List.map_append, List.sum_append]; omega

theorem may_play (n : Int) (a : Option Addr) (la ca : Nat) (ss : List (List O3)) (w : World) {hi : Nat} (hs : Scr hi w a la ss) (hm : la ≤ 1000000) (ho : opsN ss ≤ 1000000) :
    Calls Tryd.prog 22 #[.int .i64 n, .slice a la ca] w fun e w' => e = .returned (.bool (decide (n ≤ 4096 ∧ la ≤ 64 ∧ opsN ss ≤ 4096))) ∧ w = w' := by
  obtain ⟨r, hr⟩ : ∃ r, decide (n ≤ 4096 ∧ la ≤ 64 ∧ opsN ss ≤ 4096) = r := ⟨_, rfl⟩
  rw [hr]
  by_cases h1 : (4096 : Int) < n
  · obtain rfl : r = false := by rw [← hr]; exact decide_eq_false (fun q => by omega)
    clear hr
    go_enter Tryd.func22, Tryd.ntmps22
    go_wp2_with fail
    go_ret
    exact ⟨rfl, rfl⟩
  by_cases h2 : (64 : Int) < la
  · obtain rfl : r = false := by rw [← hr]; exact decide_eq_false (fun q => by omega)
    clear hr
    go_enter Tryd.func22, Tryd.ntmps22
    go_wp2_with fail
    go_ret
    exact ⟨rfl, rfl⟩
  obtain ⟨hl, hs⟩ := hs
  have HS := Lib.hid hs
  have HL := Lib.hid hl
  have HO := Lib.hid ho
  have HR := Lib.hid hr
  clear hs hl ho hr
  go_enter Tryd.func22, Tryd.ntmps22
  go_wp2_with fail
  go_loop [5, 17] (fun c i => ∃ k : Nat, k ≤ la ∧ i = .int .i64 k ∧ c = .int .i64 (opsN (ss.take k) : Nat)) (fun _ i => la - (intOf i).toNat)
  case atStart => exact ⟨0, Nat.zero_le _, rfl, by simp [opsN]⟩
  case round =>
    obtain ⟨k, hk, rfl, rfl⟩ := hrel
    by_cases hlt : k < la
    · obtain ⟨b, off, rfl, hb, hc⟩ := HS.out.resolve_left (by omega)
      obtain ⟨s, hsk⟩ : ∃ s, ss[k]? = some s := ⟨_, List.getElem?_eq_getElem (by have := HL.out; omega)⟩
      obtain ⟨a', c', h3, _⟩ := hc k s hsk
      have e1 := opsN_take ss k s hsk
      have e2 := opsN_le ss (k + 1)
      have e3 := HO.out
      obtain ⟨q, hq⟩ : ∃ q, opsN (ss.take (k + 1)) = q := ⟨_, rfl⟩
      obtain ⟨p, hp⟩ : ∃ p, opsN (ss.take k) = p := ⟨_, rfl⟩
      obtain ⟨m, hm'⟩ : ∃ m, s.length = m := ⟨_, rfl⟩
      have HQ := Lib.hid hq
      rw [hm'] at h3
      rw [hq, hp, hm'] at e1
      rw [hq] at e2
      rw [hp]
      clear hc hsk hq hp hm'
      have w1 : IntKind.i64.wrap ((p : Int) + (m : Int)) = (q : Int) := by rw [e1]; exact (IntWalk.i64_in _ (by omega)).trans (by omega)
      go_wp2_with fail
      go_round
      case rel => exact ⟨k + 1, by omega, by go_num, by rw [HQ.out]; congr 1; omega⟩
      case measure => simp [intOf]; omega
    · obtain rfl : k = la := by omega
      have e : ss.take k = ss := List.take_of_length_le (by rw [HL.out]; exact Nat.le_refl _)
      rw [e]
      have hr := HR.out
      obtain ⟨q, hq⟩ : ∃ q, opsN ss = q := ⟨_, rfl⟩
      rw [hq] at hr ⊢
      by_cases h5 : q ≤ 4096
      · obtain rfl : r = true := by rw [← hr]; exact decide_eq_true ⟨by omega, by omega, h5⟩
        have hd : decide ((q : Int) ≤ 4096) = true := decide_eq_true (by omega)
        clear hq e hr
        go_wp2_with fail
        go_ret
        refine ⟨?_, rfl⟩
        simp only [hd]
        rfl
      · obtain rfl : r = false := by rw [← hr]; exact decide_eq_false (fun z => h5 z.2.2)
        have hd : decide ((q : Int) ≤ 4096) = false := decide_eq_false (by omega)
        clear hq e hr
        go_wp2_with fail
        go_ret
        refine ⟨?_, rfl⟩
        simp only [hd]
        rfl

end Go.Proofs.YtpdjmfkoahdhaaaDoor
